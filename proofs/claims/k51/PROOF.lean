import PyProof.Rows.All
import Wide.All
import OpenK.AllK
import Wide.FinOn
import PyProof.EqAt
import PyProof.EqKinds
import PyProof.TupleCall
import Lean
import PySem.SetOps
import PyProof.SetKind
import PyProof.DictKinds
import PyProof.CompMap
import PyProof.Walks
import PyProof.ZipIter
import PyProof.FactsAll.set_1
import PyProof.CollectWalk
import PyProof.WalksS
import PyProof.SetNew
import PyProof.Rows.SetFrom
import PyProof.Rows.SortShell
import PyProof.Rows.SortWalk
import PyProof.NeKinds
import PyProof.SumWalkG
import PySem.Challenge.RW_eachonce_k51_what_are_wholes
set_option Elab.async false
set_option linter.all false
set_option maxRecDepth 100000
section
/-! small sets of ints: the table -/
namespace SS
open PySem PySem.SetTable

abbrev Ris (xs : Array Nat) : Prop := xs.toList.Pairwise (· < ·)

theorem ris_get {xs : Array Nat} (h : Ris xs) {a b : Nat} (hab : a < b) (hb : b < xs.size) : xs.getD a 0 < xs.getD b 0 := by
  have h1 : a < xs.size := Nat.lt_trans hab hb
  have := List.pairwise_iff_getElem.mp h a b (by simpa using h1) (by simpa using hb) hab
  simpa [Array.getD, h1, hb] using this

theorem go_spec {xs : Array Nat} {j : Nat} (hr : Ris xs) : ∀ (fuel lo hi : Nat), hi - lo ≤ fuel → lo ≤ hi → hi ≤ xs.size → (∀ a, a < lo → xs.getD a 0 < j) → (∀ a, hi ≤ a → a < xs.size → j ≤ xs.getD a 0) →
    (below.go xs j fuel lo hi ≤ xs.size ∧ (∀ a, a < below.go xs j fuel lo hi → xs.getD a 0 < j) ∧ (∀ a, below.go xs j fuel lo hi ≤ a → a < xs.size → j ≤ xs.getD a 0)) := by
  intro fuel
  induction fuel with
  | zero =>
    intro lo hi h1 h2 h3 h4 h5
    have e : lo = hi := by omega
    subst e
    exact ⟨h3, h4, h5⟩
  | succ fuel ih =>
    intro lo hi h1 h2 h3 h4 h5
    unfold below.go
    by_cases hlt : lo < hi
    · rw [if_pos hlt]
      have hm : (lo + hi) / 2 < xs.size := by omega
      have e : xs.getD ((lo + hi) / 2) j = xs.getD ((lo + hi) / 2) 0 := by simp [Array.getD, hm]
      dsimp only
      rw [e]
      by_cases hc : xs.getD ((lo + hi) / 2) 0 < j
      · rw [if_pos hc]
        refine ih _ _ (by omega) (by omega) h3 (fun a ha => ?_) h5
        by_cases e2 : a = (lo + hi) / 2
        · rw [e2]; exact hc
        · exact Nat.lt_trans (ris_get hr (by omega) hm) hc
      · rw [if_neg hc]
        refine ih _ _ (by omega) (by omega) (by omega) h4 (fun a ha hs => ?_)
        by_cases e2 : a = (lo + hi) / 2
        · rw [e2]; omega
        · have := ris_get hr (show (lo + hi) / 2 < a by omega) hs
          omega
    · rw [if_neg hlt]
      have e : lo = hi := by omega
      subst e
      exact ⟨h3, h4, h5⟩

theorem below_spec {xs : Array Nat} (hr : Ris xs) (j : Nat) : below xs j ≤ xs.size ∧ (∀ a, a < below xs j → xs.getD a 0 < j) ∧ (∀ a, below xs j ≤ a → a < xs.size → j ≤ xs.getD a 0) :=
  go_spec hr xs.size 0 xs.size (by omega) (Nat.zero_le _) (Nat.le_refl _) (fun a h => absurd h (Nat.not_lt_zero _)) (fun a h1 h2 => absurd h2 (by omega))

theorem below_eq {xs : Array Nat} (hr : Ris xs) {j i : Nat} (hi : i ≤ xs.size) (h1 : ∀ a, a < i → xs.getD a 0 < j) (h2 : ∀ a, i ≤ a → a < xs.size → j ≤ xs.getD a 0) : below xs j = i := by
  obtain ⟨b1, b2, b3⟩ := below_spec hr j
  rcases Nat.lt_trichotomy (below xs j) i with h | h | h
  · have q1 := h1 _ h
    have q2 := b3 _ (Nat.le_refl _) (by omega)
    omega
  · exact h
  · have q1 := b2 _ h
    have q2 := h2 _ (Nat.le_refl _) (by omega)
    omega

theorem toList_insertAt {α : Type} (xs : Array α) (p : Nat) (x : α) : (insertAt xs p x).toList = xs.toList.take p ++ x :: xs.toList.drop p := by
  unfold insertAt
  simp [Array.toList_extract, List.extract]
  rw [List.take_of_length_le (by simp)]

theorem size_insertAt {α : Type} (xs : Array α) (p : Nat) (x : α) : (insertAt xs p x).size = xs.size + 1 := by
  rw [← Array.length_toList, toList_insertAt]
  simp
  omega

theorem ris_insert {xs : Array Nat} {j : Nat} (hr : Ris xs) (hj : j ∉ xs.toList) : Ris (insertAt xs (below xs j) j) := by
  obtain ⟨b1, b2, b3⟩ := below_spec hr j
  show (insertAt xs (below xs j) j).toList.Pairwise (· < ·)
  rw [toList_insertAt, List.pairwise_append, List.pairwise_cons]
  have hl : ∀ a ∈ xs.toList.take (below xs j), a < j := by
    intro a ha
    obtain ⟨i, hi, e⟩ := List.mem_take_iff_getElem.mp ha
    have := b2 i (by omega)
    have hs : i < xs.size := by simp at hi; omega
    simp [Array.getD, hs] at this
    simp at e
    omega
  have hg : ∀ a ∈ xs.toList.drop (below xs j), j < a := by
    intro a ha
    obtain ⟨i, hi, e⟩ := List.mem_drop_iff_getElem.mp ha
    have hs : i + below xs j < xs.size := by simpa [Nat.add_comm] using hi
    have := b3 (i + below xs j) (by omega) hs
    simp [Array.getD, hs] at this
    have e' : xs[i + below xs j] = a := by simpa [Nat.add_comm] using e
    have hne : a ≠ j := by
      intro z
      apply hj
      rw [← z]
      exact List.mem_of_mem_drop ha
    omega
  refine ⟨hr.sublist (List.take_sublist _ _), ⟨hg, hr.sublist (List.drop_sublist _ _)⟩, ?_⟩
  intro a ha b hb
  rcases List.mem_cons.mp hb with rfl | hb
  · exact hl a ha
  · exact Nat.lt_trans (hl a ha) (hg b hb)

theorem not_mem_of_slot {t : SetTable} {j : Nat} (hr : Ris t.place) (h : t.slot j = .empty) : j ∉ t.place.toList := by
  intro hm
  obtain ⟨i, hi, e⟩ := List.getElem_of_mem hm
  have hs : i < t.place.size := by simpa using hi
  have e0 : t.place[i] = j := by simpa using e
  have eb : below t.place j = i := by
    refine below_eq hr (Nat.le_of_lt hs) (fun a ha => ?_) (fun a h1 h2 => ?_)
    · have := ris_get hr ha hs
      simp only [Array.getD, hs] at this ⊢
      simp [e0] at this ⊢
      exact this
    · by_cases e2 : a = i
      · subst e2
        simp [Array.getD, hs, e0]
      · have := ris_get hr (show i < a by omega) h2
        simp only [Array.getD, hs] at this
        simp [e0] at this
        simp [Array.getD]
        omega
  unfold SetTable.slot at h
  dsimp only at h
  rw [eb] at h
  rw [if_pos (by simp [hs, e0])] at h
  cases h

theorem has_nil (j : Nat) : has #[] j = false := by
  unfold has
  simp

theorem probe_go {t : SetTable} (hd : t.dummies = #[]) {f : Nat → Int} {h : Int} : ∀ (fuel : Nat) (p : Probe) (m : Met), p.dummy = none → probe.go t f h fuel p = some m →
    (∃ j, m = .empty j none ∧ t.slot j = .empty) ∨ (∃ j i n, m = .candidate j i n) := by
  intro fuel
  induction fuel with
  | zero => intro p m _ e; simp [probe.go] at e
  | succ fuel ih =>
    intro p m hp e
    unfold probe.go at e
    cases hs : t.slot p.j with
    | empty =>
      rw [hs] at e
      simp only [Option.some.injEq] at e
      subst e
      exact .inl ⟨p.j, by rw [hp], hs⟩
    | dummy =>
      unfold SetTable.slot at hs
      dsimp only at hs
      rw [hd, has_nil] at hs
      split at hs
      · cases hs
      · simp at hs
    | live i =>
      rw [hs] at e
      dsimp only at e
      split at e
      · simp only [Option.some.injEq] at e
        subst e
        exact .inr ⟨_, _, _, rfl⟩
      · refine ih _ _ ?_ e
        unfold advance
        split
        · exact hp
        · exact hp

theorem freeSlot_free {t : SetTable} (hr : Ris t.place) (hd : t.dummies = #[]) {h : Int} {slot : Nat} {d : Bool} (e : t.freeSlot h = some (slot, d)) : slot ∉ t.place.toList := by
  unfold SetTable.freeSlot at e
  split at e
  · rename_i j dummy hp
    simp only [Option.some.injEq, Prod.mk.injEq] at e
    have hp' : probe.go t (fun _ => h + 1) h (10 * turns t.mask) (t.probeStart h) = some (.empty j dummy) := hp
    rcases probe_go hd _ _ _ (by unfold probeStart; rfl) hp' with ⟨j', em, hs⟩ | ⟨_, _, _, em⟩
    · cases em
      have : slot = j := by rw [← e.1]; rfl
      rw [this]
      exact not_mem_of_slot hr hs
    · cases em
  · cases e

theorem slot_cases {t : SetTable} {j : Nat} (hd : t.dummies = #[]) (h : t.slot j ≠ .empty) : (∃ i, t.slot j = .live i) ∧ j ∈ t.place.toList := by
  unfold SetTable.slot at h ⊢
  dsimp only at h ⊢
  by_cases q : (t.place[below t.place j]? == some j) = true
  · rw [if_pos q]
    refine ⟨⟨_, rfl⟩, ?_⟩
    have e : t.place[below t.place j]? = some j := eq_of_beq q
    obtain ⟨hi, e⟩ := Array.getElem?_eq_some_iff.mp e
    rw [← e]
    exact Array.getElem_mem_toList hi
  · rw [if_neg q, hd, has_nil] at h
    exact absurd rfl h

theorem run7 (i : Nat) : runEnd 7 i = i := by unfold runEnd; rw [if_neg (by omega)]

/-- from place i on, with nothing left to perturb: the next eight places that are looked at are all eight -/
theorem probe_all {t : SetTable} (hm : t.mask = 7) (hd : t.dummies = #[]) {h : Int} : ∀ (k fuel : Nat) (p : Probe), p.j = p.i → p.more = 0 → p.i < 8 → p.perturb < 32 → k ≤ fuel →
    probe.go t (fun _ => h + 1) h fuel p = none → ∀ r, r < k → Nat.repeat (fun i => (i * 5 + 1) % 8) r p.i ∈ t.place.toList := by
  intro k
  induction k with
  | zero => intro fuel p _ _ _ _ _ _ r hr; omega
  | succ k ih =>
    intro fuel p h1 h2 h3 h4 h5 h6 r hr
    obtain ⟨f, rfl⟩ : ∃ f, fuel = f + 1 := ⟨fuel - 1, by omega⟩
    unfold probe.go at h6
    by_cases he : t.slot p.j = .empty
    · rw [he] at h6; cases h6
    · obtain ⟨⟨i, hl⟩, hmem⟩ := slot_cases hd he
      rw [hl] at h6
      dsimp only at h6
      rw [if_neg (by simp; omega)] at h6
      have hz : p.perturb / 32 = 0 := by omega
      have ea : t.advance p = { p with j := (p.i * 5 + 1) % 8, more := 0, i := (p.i * 5 + 1) % 8, perturb := 0 } := by
        unfold advance leap
        rw [if_neg (by omega), hm, hz]
        simp [run7]
      rw [ea] at h6
      cases r with
      | zero => show p.i ∈ _; rw [← h1]; exact hmem
      | succ r =>
        have q := ih f _ (by rfl) (by rfl) (by show (p.i * 5 + 1) % 8 < 8; omega) (by show 0 < 32; omega) (by omega) h6 r (by omega)
        have e : ∀ (r i : Nat), Nat.repeat (fun i => (i * 5 + 1) % 8) (r + 1) i = Nat.repeat (fun i => (i * 5 + 1) % 8) r ((i * 5 + 1) % 8) := by
          intro r
          induction r with
          | zero => intro i; rfl
          | succ r ihr =>
            intro i
            show ((Nat.repeat _ (r + 1) i) * 5 + 1) % 8 = ((Nat.repeat _ r ((i * 5 + 1) % 8)) * 5 + 1) % 8
            rw [ihr]
        rw [e]
        exact q
theorem all_eight : ∀ i, i < 8 → ∀ j, j < 8 → ∃ r, r < 8 ∧ Nat.repeat (fun i => (i * 5 + 1) % 8) r i = j := by decide +kernel

theorem freeSlot_some {t : SetTable} (hm : t.mask = 7) (hd : t.dummies = #[]) (hz : t.place.size < 8) {h : Int} (h0 : 0 ≤ h) (h1 : h < 32) : ∃ q, t.freeSlot h = some q := by
  unfold SetTable.freeSlot
  have hb : bits h < 32 := by unfold bits; omega
  have hps : t.probeStart h = { j := bits h % 8, more := 0, i := bits h % 8, perturb := bits h, dummy := none } := by
    unfold probeStart
    rw [hm]
    simp [run7]
  cases e : t.probe (fun _ => h + 1) h (t.probeStart h) with
  | none =>
    exfalso
    have e' : probe.go t (fun _ => h + 1) h (10 * turns t.mask) (t.probeStart h) = none := e
    rw [hps] at e'
    have q := probe_all hm hd 8 _ _ (by rfl) (by rfl) (by show bits h % 8 < 8; omega) (by exact hb) (by rw [hm]; decide) e'
    have sub : List.range 8 ⊆ t.place.toList := by
      intro j hj
      obtain ⟨r, hr, er⟩ := all_eight (bits h % 8) (by omega) j (List.mem_range.mp hj)
      rw [← er]
      exact q r hr
    have := List.Nodup.length_le_of_subset (List.nodup_range (n := 8)) sub
    simp at this
    omega
  | some m =>
    rcases probe_go hd _ _ _ (by rw [hps]) (show probe.go t (fun _ => h + 1) h (10 * turns t.mask) (t.probeStart h) = some m from e) with ⟨j, rfl, _⟩ | ⟨j, i, n, rfl⟩
    · exact ⟨_, rfl⟩
    · exfalso
      have nc : ∀ (fuel : Nat) (p : Probe) (j i : Nat) (n : Probe), probe.go t (fun _ => h + 1) h fuel p ≠ some (.candidate j i n) := by
        intro fuel
        induction fuel with
        | zero => intro p j i n; simp [probe.go]
        | succ f ih =>
          intro p j i n
          unfold probe.go
          cases t.slot p.j with
          | empty => simp
          | dummy => exact ih _ _ _ _
          | live i' =>
            dsimp only
            rw [if_neg (by simp; omega)]
            exact ih _ _ _ _
      exact nc _ _ _ _ _ e

/-- what a small table is like: n places -/
structure Tab (t : SetTable) (n : Nat) (led : Bool) : Prop where
  ris : Ris t.place
  sz : t.place.size = n
  dm : t.dummies = #[]
  msk : t.mask = 7
  pl : t.plain = true
  ld : t.led = led

theorem Tab.fits {t : SetTable} {n : Nat} {led : Bool} (T : Tab t n led) (hn : n ≤ 4) : t.fits n = true := by
  unfold SetTable.fits fill
  simp [T.sz, T.dm, T.msk]
  omega
theorem Tab.full {t : SetTable} {n : Nat} {led : Bool} (T : Tab t n led) (hn : n ≤ 4) : t.tooFull = false := by
  unfold tooFull fill
  simp [T.sz, T.dm, T.msk]
  omega
theorem tab_fresh (led : Bool) : Tab (fresh 0 0 led) 0 led := ⟨List.Pairwise.nil, rfl, rfl, rfl, rfl, rfl⟩

/-- a new element is laid: some place in the order -/
theorem layNew_tab {t : SetTable} {n : Nat} {led : Bool} (T : Tab t n led) (hn : n + 1 ≤ 4) (es : Array (Int × Value)) (he : es.size = n) {h : Int} (h0 : 0 ≤ h) (h1 : h < 32) (x : Value) :
    Tab (layNew t es h x).2.1 (n + 1) led ∧ ∃ p, (layNew t es h x).1.toList = es.toList.take p ++ (h, x) :: es.toList.drop p := by
  obtain ⟨⟨slot, d⟩, hf⟩ := freeSlot_some T.msk T.dm (by rw [T.sz]; omega) h0 h1
  unfold layNew
  rw [hf]
  dsimp only [SetTable.put]
  have hnm := freeSlot_free T.ris T.dm hf
  have T2 : Tab { t with place := insertAt t.place (below t.place slot) slot, dummies := if has t.dummies slot then eraseAt t.dummies (below t.dummies slot) else t.dummies } (n + 1) led := by
    refine ⟨ris_insert T.ris hnm, by rw [size_insertAt, T.sz], ?_, T.msk, T.pl, T.ld⟩
    rw [T.dm, has_nil]
    rfl
  refine ⟨?_, _, toList_insertAt _ _ _⟩
  unfold SetTable.orStandIn
  rw [size_insertAt, he, T2.fits hn]
  exact T2

/-- the walk's slots: at turn i -/
def slotAt (xs : Array Nat) : Nat → Nat
  | 0 => 0
  | i + 1 => xs.getD i 0 + 1
theorem below_slotAt {xs : Array Nat} (hr : Ris xs) {i : Nat} (hi : i ≤ xs.size) : below xs (slotAt xs i) = i := by
  cases i with
  | zero => exact below_eq hr (Nat.zero_le _) (fun a h => absurd h (Nat.not_lt_zero _)) (fun a _ _ => Nat.zero_le _)
  | succ i =>
    refine below_eq hr hi (fun a ha => ?_) (fun a h1 h2 => ?_)
    · show _ < xs.getD i 0 + 1
      by_cases e : a = i
      · rw [e]; omega
      · have := ris_get hr (show a < i by omega) (show i < xs.size by omega)
        omega
    · show xs.getD i 0 + 1 ≤ _
      exact ris_get hr (show i < a by omega) h2

theorem erase_perm {α : Type} {l : List α} {i : Nat} (h : i < l.length) : (l[i] :: l.eraseIdx i).Perm l := by
  rw [List.eraseIdx_eq_take_drop_succ]
  have e : l = l.take i ++ l[i] :: l.drop (i + 1) := by rw [← List.drop_eq_getElem_cons h, List.take_append_drop]
  conv => rhs; rw [e]
  exact List.perm_middle.symm
/-- the order that a text's world picks is one of the same things -/
theorem pick_go {α : Type} (next : Nat → Nat) : ∀ (fuel k : Nat) (left : List α) (out : Array α), fuel = left.length → (pickOrder.go next fuel k left out).toList.Perm (out.toList ++ left) := by
  intro fuel
  induction fuel with
  | zero =>
    intro k left out h
    have : left = [] := List.length_eq_zero_iff.mp h.symm
    subst this
    simp [pickOrder.go]
  | succ f ih =>
    intro k left out h
    have hl : next k % left.length < left.length := Nat.mod_lt _ (by omega)
    unfold pickOrder.go
    rw [List.getElem?_eq_getElem hl]
    dsimp only
    refine (ih _ _ _ (by rw [List.length_eraseIdx_of_lt hl]; omega)).trans ?_
    rw [Array.toList_push, List.append_assoc]
    exact List.Perm.append_left _ (erase_perm hl)
theorem pick_perm {α : Type} (next : Nat → Nat) (xs : Array α) : (pickOrder next xs).toList.Perm xs.toList := by
  unfold pickOrder
  have := pick_go next xs.size 0 xs.toList #[] (by simp)
  simpa using this
end SS
end
section
/-! small sets of ints: an element is put in -/
namespace SS
open PySem

/-- are the places of a set led in this world -/
abbrev ledW (w : World) : Bool := !(w.params.followText "set-order")
def El (e : Int × Value) (k : Int) : Prop := e.1 = hashInt k ∧ ∃ t, e.2 = .int k t

theorem paired_left {α β : Type} {F : α → β → Prop} : ∀ {l : List α} {r : List β}, Paired F l r → ∀ a ∈ l, ∃ b ∈ r, F a b
  | _, _, .nil => fun a h => by cases h
  | _, _, .cons f t => fun a h => by
    rcases List.mem_cons.mp h with rfl | h
    · exact ⟨_, List.mem_cons_self, f⟩
    · obtain ⟨b, hb, q⟩ := paired_left t a h
      exact ⟨b, List.mem_cons_of_mem _ hb, q⟩
theorem paired_right {α β : Type} {F : α → β → Prop} : ∀ {l : List α} {r : List β}, Paired F l r → ∀ b ∈ r, ∃ a ∈ l, F a b
  | _, _, .nil => fun a h => by cases h
  | _, _, .cons f t => fun b h => by
    rcases List.mem_cons.mp h with rfl | h
    · exact ⟨_, List.mem_cons_self, f⟩
    · obtain ⟨a, ha, q⟩ := paired_right t b h
      exact ⟨a, List.mem_cons_of_mem _ ha, q⟩
theorem paired_put {α β : Type} {F : α → β → Prop} {a : α} {b : β} (f : F a b) : ∀ {l : List α} {r : List β} (p : Nat), Paired F l r → Paired F (l.take p ++ a :: l.drop p) (r.take p ++ b :: r.drop p)
  | _, _, 0, q => by simpa using Paired.cons f q
  | _, _, p + 1, .nil => by simpa using Paired.cons f .nil
  | _, _, p + 1, .cons g t => by
    simp only [List.take_succ_cons, List.drop_succ_cons, List.cons_append]
    exact .cons g (paired_put f p t)
theorem put_mem {α : Type} (l : List α) (p : Nat) (x z : α) : z ∈ l.take p ++ x :: l.drop p ↔ z = x ∨ z ∈ l := by
  conv => rhs; rw [← List.take_append_drop p l]
  simp only [List.mem_append, List.mem_cons]
  constructor
  · rintro (h | h | h)
    · exact .inr (.inl h)
    · exact .inl h
    · exact .inr (.inr h)
  · rintro (h | h | h)
    · exact .inr (.inl h)
    · exact .inl h
    · exact .inr (.inr h)
theorem put_perm {α : Type} (l : List α) (p : Nat) (x : α) : (l.take p ++ x :: l.drop p).Perm (x :: l) := by
  have h : (l.take p ++ x :: l.drop p).Perm (x :: (l.take p ++ l.drop p)) := List.perm_middle
  rw [List.take_append_drop] at h
  exact h

structure SetG (w : World) (h : Heap) (a : Addr) (ks : List Int) : Prop where
  ex : ∃ o es ep t, h.get? a = some o ∧ o.ExactSet ∧ o.data = .set es ep t ∧ Paired El es.toList ks ∧ Tab t es.size (ledW w)
  nd : ks.Nodup
  len : ks.length ≤ 4

section
variable {prog : Program} {w : World} {A : Around} {E : Value → Shared → Prop} {s : Shared} {a : Addr} {ks : List Int} {k : Int} {tk : Tok}

theorem elems {es : List (Int × Value)} (h : Paired El es ks) : ElemsOf (intKind prog w) es := fun e he => by
  obtain ⟨k, _, h1, t, h2⟩ := paired_left h e he
  rw [h2]
  exact ⟨⟨k, by show Value.isInt k (.int k t) = true; simp [Value.isInt], h1⟩, rfl⟩
theorem SetG.at {h h' : Heap} (S : SetG w h a ks) (e : ∀ o, h.get? a = some o → h'.get? a = some o) : SetG w h' a ks := by
  obtain ⟨⟨o, es, ep, t, ho, r⟩, nd, len⟩ := S
  exact ⟨⟨o, es, ep, t, e _ ho, r⟩, nd, len⟩

theorem hashInt_small (k0 : 0 ≤ k) (k1 : k < 32) : hashInt k = k := by
  obtain ⟨n, rfl⟩ := Int.eq_ofNat_of_zero_le k0
  have e : ∀ n : Nat, n < 32 → hashInt (n : Int) = (n : Int) := by decide +kernel
  exact e n (by omega)

theorem add_ok {Q : Bool → Shared → Prop} (S : SetG w s.heap a ks) (hl : ks.length + 1 ≤ 4) (k0 : 0 ≤ k) (k1 : k < 32)
    (h : ∀ b h' ks', Heap.SameBut a s.heap h' → SetG w h' a ks' → (∀ z, z ∈ ks' ↔ z = k ∨ z ∈ ks) → ks'.length ≤ ks.length + 1 → Q b { s with heap := h' }) :
    wpAny (model prog w) A (setAddHashed a (.int k tk) (hashInt k)) Q E s := by
  obtain ⟨o, es, ep, t, ho, hex, hd, hp, T⟩ := id S.ex
  have hn : es.size = ks.length := by rw [← Array.length_toList]; exact Paired.length hp
  have hf := T.fits (by omega)
  have hel : ElemsOf (intKind prog w) es.toList := elems hp
  have hb : es.size < scanBound := by unfold scanBound; omega
  have hi : ∀ (j : Int) (t : Tok), Value.isInt k (.int j t) = true → j = k := fun j t e => by simpa [Value.isInt] using e
  unfold setAddHashed setAddHashedIn
  refine wpAny_holding (wpAny_bind (wpAny_setState_of ho hd hf ?_))
  dsimp only
  rw [byScan_of (knd := intKind prog w) rfl hb hel, if_pos rfl]
  unfold setAddByScan
  refine wpAny_bind (wpAny_bind (wpAny_rule (wpAny_bind ?_)))
  refine wpAny_setScan_of (knd := intKind prog w) (k := k) (by show Value.isInt k (.int k tk) = true; simp [Value.isInt]) ho hd hf hel ?_
  have es0 : s = { s with heap := s.heap } := by cases s; rfl
  cases hr : List.findIdx? (fun e => (intKind prog w).is k e.2) es.toList with
  | some j =>
    obtain ⟨hj, hpj, _⟩ := List.findIdx?_eq_some_iff_getElem.mp hr
    obtain ⟨k', hk', _, t', e'⟩ := paired_left hp _ (List.getElem_mem hj)
    have hkk : k' = k := hi k' t' (by rw [← e']; exact hpj)
    subst hkk
    refine wpAny_pure (wpAny_pure ?_)
    rw [es0]
    exact h false s.heap ks (Heap.SameBut.refl a s.heap) S (fun z => ⟨.inr, fun q => q.elim (fun e => e ▸ hk') id⟩) (by omega)
  | none =>
    have hnk : k ∉ ks := fun hm => by
      obtain ⟨e, he, _, t', e'⟩ := paired_right hp k hm
      have q := List.findIdx?_eq_none_iff.mp hr e he
      rw [e'] at q
      have q' : Value.isInt k (.int k t') = false := q
      simp [Value.isInt] at q'
    obtain ⟨T1, p, hp1⟩ := layNew_tab T (by omega) es rfl (h := hashInt k) (by rw [hashInt_small k0 k1]; exact k0) (by rw [hashInt_small k0 k1]; exact k1) (.int k tk)
    dsimp only
    show wpAny _ A (match layNew t es (hashInt k) (Value.int k tk) with | (es, t, wasDummy, gave) => _) _ E s
    generalize layNew t es (hashInt k) (Value.int k tk) = L at T1 hp1 ⊢
    obtain ⟨es1, t1, wd, gv⟩ := L
    dsimp only at T1 hp1 ⊢
    have hp2 : Paired El es1.toList (ks.take p ++ k :: ks.drop p) := by
      rw [hp1]
      exact paired_put ⟨rfl, tk, rfl⟩ p hp
    have hz1 : es1.size = es.size + 1 := by
      rw [← Array.length_toList, hp1, (put_perm es.toList p (hashInt k, Value.int k tk)).length_eq]
      simp
    have hlen : (ks.take p ++ k :: ks.drop p).length = ks.length + 1 := (put_perm ks p k).length_eq
    have T1' : Tab t1 es1.size (ledW w) := by rw [hz1]; exact T1
    have hg : (s.heap.update a (Obj.putSet es1 t1)).get? a = some { o with data := .set es1 (ep + 1) t1 } := by
      have q := Heap.get?_update_self (Obj.putSet es1 t1) ho (by rw [putSet_of es1 t1 hd]; rfl)
      rw [putSet_of es1 t1 hd] at q
      exact q
    have fin : Q true { s with heap := s.heap.update a (Obj.putSet es1 t1) } :=
      h true _ _ (Heap.SameBut.update ..) ⟨⟨_, es1, ep + 1, t1, hg, hex, rfl, hp2, T1'⟩, (put_perm ks p k).nodup_iff.mpr (List.nodup_cons.mpr ⟨hnk, S.nd⟩), by omega⟩ (fun z => put_mem ks p k z) (by omega)
    have hfull : t1.tooFull = false := T1'.full (by omega)
    refine wpAny_bind (show wpAny _ A (match gv with | true => rule "set.scan.the-table-gave-way" | false => pure ()) _ E s from ?_)
    have hzl : es1.size ≤ sizeLine := by rw [hz1, show sizeLine = 2 ^ 24 from rfl]; omega
    cases gv with
    | true =>
      refine wpAny_rule ?_
      split
      all_goals
        refine wpAny_bind (show wpAny _ A (pure true : Sem Bool) _ E s from wpAny_pure ?_)
        simp only [if_true]
        refine wpAny_bind (wpAny_storeSet_of ho hd ?_ hzl)
        rw [hfull, Bool.and_false, if_neg Bool.false_ne_true]
        exact wpAny_pure (wpAny_pure fin)
    | false =>
      refine wpAny_pure ?_
      split
      all_goals
        refine wpAny_bind (show wpAny _ A (pure true : Sem Bool) _ E s from wpAny_pure ?_)
        simp only [if_true]
        refine wpAny_bind (wpAny_storeSet_of ho hd ?_ hzl)
        rw [hfull, Bool.and_false, if_neg Bool.false_ne_true]
        exact wpAny_pure (wpAny_pure fin)
end
end SS
end
section
/-! small sets of ints: facts about the built-in names -/
namespace SS
open PySem

theorem slot_si_next : Slot "set_iterator" "__next__" "set_iterator.__next__" :=
  .of (owner := "set_iterator") (n := "__next__") (by
      rw [typeLookup_type, builtinLookup_eq_fast]
      kernel_rfl) (by decide +kernel) (by decide +kernel)
    (by decide +kernel)
    (by first
      | exact .inl (by decide +kernel)
      | exact .inr (by decide +kernel))
    (by
      rw [isSubtype_type]
      kernel_rfl)
theorem slot_si_iter : Slot "set_iterator" "__iter__" "set_iterator.__iter__" :=
  .of (owner := "set_iterator") (n := "__iter__") (by
      rw [typeLookup_type, builtinLookup_eq_fast]
      kernel_rfl) (by decide +kernel) (by decide +kernel)
    (by decide +kernel)
    (by first
      | exact .inl (by decide +kernel)
      | exact .inr (by decide +kernel))
    (by
      rw [isSubtype_type]
      kernel_rfl)
theorem entry_si_next : entryFor table "set_iterator.__next__" = some Builtin.«set_iterator.__next__» := entryFor_of_tree (by kernel_rfl)
theorem entry_set_iter : entryFor table "set.__iter__" = some Builtin.«frozenset.__iter__» :=
  entryFor_alias (id' := "frozenset.__iter__") (by kernel_rfl) rfl (by decide +kernel) (by kernel_rfl)
theorem entry_si_iter : entryFor table "set_iterator.__iter__" = some Builtin.«dict_keyiterator.__iter__» :=
  entryFor_alias (id' := "dict_keyiterator.__iter__") (by kernel_rfl) (by first | rfl | decide +kernel | (unfold String.splitOn; simp +decide [String.splitOnAux])) (by decide +kernel)
    (by kernel_rfl)
theorem args_si_next (a : Value) : argsOk "set_iterator.__next__" ⟨[a], []⟩ := by unfold argsOk; kernel_rfl
theorem args_si_iter (a : Value) : argsOk "set_iterator.__iter__" ⟨[a], []⟩ := by unfold argsOk; kernel_rfl
theorem args_set_iter (a : Value) : argsOk "set.__iter__" ⟨[a], []⟩ := by unfold argsOk; kernel_rfl

end SS
end
section
/-! small sets of ints: walked -/
namespace SS
open PySem

abbrev byTxt (w : World) : Bool := w.params.followText "set-order"
abbrev IsSI (h : Heap) (I : Addr) (slot i : Nat) (a : Addr) (n ep : Nat) : Prop :=
  h.get? I = some { cls := .type "set_iterator", dict := none, data := .fields #[rawInt slot, rawInt i, .ref a, rawInt n, rawInt ep], slots := #[] }
def slotW (w : World) (t : SetTable) (i : Nat) : Nat := if byTxt w = true then 0 else slotAt t.place i
/-- the values in the order in which they are told -/
def told (w : World) (a : Addr) (ep : Nat) (es : Array (Int × Value)) : List Value := (if byTxt w = true then (pickOrder (w.params.setOrder a ep) es).toList else es.toList).map (·.2)
theorem told_len (w : World) (a : Addr) (ep : Nat) (es : Array (Int × Value)) : (told w a ep es).length = es.size := by
  unfold told
  rw [List.length_map]
  split
  · rw [(pick_perm _ es).length_eq]; simp
  · simp
theorem told_perm (w : World) (a : Addr) (ep : Nat) (es : Array (Int × Value)) : (told w a ep es).Perm (es.toList.map (·.2)) := by
  unfold told
  split
  · exact (pick_perm _ es).map _
  · exact .refl _

section
variable {prog : Program} {w : World} {A : Around} {E : Value → Shared → Prop} {s : Shared} {a I : Addr} {o : Obj} {es : Array (Int × Value)} {ep : Nat} {t : SetTable}

theorem next_ok {i : Nat} {Q : Option (Value × Nat) → Shared → Prop} (ho : s.heap.get? a = some o) (hd : o.data = .set es ep t) (T : Tab t es.size (ledW w)) (hn : es.size ≤ 4) (hi : i ≤ es.size)
    (h : Q ((told w a ep es)[i]?.map fun v => (v, slotW w t (i + 1))) s) : wpAny (model prog w) A (setNext a (slotW w t i) i ep) Q E s := by
  unfold setNext
  refine wpAny_bind (wpAny_setState_of ho hd (T.fits hn) ?_)
  dsimp only
  unfold setsByText
  refine wpAny_bind (wpAny_bind (wpAny_askSetting (wpAny_pure ?_)))
  show wpAny _ A (if byTxt w = true then _ else _) Q E s
  have hl := told_len w a ep es
  by_cases hb : byTxt w = true
  · rw [if_pos hb, if_neg (by simp)]
    unfold setWalk
    refine wpAny_bind (wpAny_bind (wpAny_setState_of ho hd (T.fits hn) ?_))
    dsimp only
    unfold setsByText
    refine wpAny_bind (wpAny_bind (wpAny_askSetting (wpAny_pure ?_)))
    show wpAny _ A (if byTxt w = true then _ else _) _ E s
    rw [if_pos hb]
    refine wpAny_bind (wpAny_askSetting (wpAny_pure (wpAny_pure ?_)))
    have e : (told w a ep es)[i]?.map (fun v => (v, slotW w t (i + 1))) = (pickOrder (w.params.setOrder a ep) es)[i]?.map (fun e => (e.snd, slotW w t i)) := by
      unfold told slotW
      rw [if_pos hb, if_pos hb, if_pos hb, List.getElem?_map, Array.getElem?_toList, Option.map_map]
      rfl
    rw [e] at h
    exact h
  · rw [if_neg hb]
    have hb' : byTxt w = false := by simpa using hb
    have hld : t.led = true := by rw [T.ld]; show (!byTxt w) = true; rw [hb']; rfl
    show wpAny _ A (if (!t.plain && decide (es.size > 1)) = true then _ else _) Q E s
    rw [T.pl, Bool.not_true, Bool.false_and, if_neg Bool.false_ne_true]
    refine wpAny_bind ?_
    show wpAny _ A (if (!t.led && !es.isEmpty) = true then _ else pure ()) _ E s
    rw [hld, Bool.not_true, Bool.false_and, if_neg Bool.false_ne_true]
    refine wpAny_pure (wpAny_pure ?_)
    have eb : SetTable.below t.place (slotW w t i) = i := by
      unfold slotW
      rw [if_neg hb]
      exact below_slotAt T.ris (by rw [T.sz]; exact hi)
    rw [eb]
    have et : (told w a ep es)[i]? = es[i]?.map (·.2) := by
      unfold told
      rw [if_neg hb, List.getElem?_map, Array.getElem?_toList]
    rw [et] at h
    by_cases hlt : i < es.size
    · have h1 : es[i]? = some es[i] := by simp [hlt]
      have hlt2 : i < t.place.size := by rw [T.sz]; exact hlt
      have h2 : t.place[i]? = some t.place[i] := by simp [hlt2]
      have h3 : slotW w t (i + 1) = t.place[i] + 1 := by
        unfold slotW slotAt
        rw [if_neg hb]
        simp [Array.getD, hlt2]
      rw [h1, h3] at h
      rw [h1, h2]
      exact h
    · have h1 : es[i]? = none := by simp; omega
      rw [h1] at h
      rw [h1]
      exact h

theorem si_next_item {i : Nat} {v : Value} {Q : Option Value → Shared → Prop} (ho : s.heap.get? a = some o) (hd : o.data = .set es ep t) (T : Tab t es.size (ledW w)) (hn : es.size ≤ 4)
    (hit : IsSI s.heap I (slotW w t i) i a es.size ep) (hv : (told w a ep es)[i]? = some v)
    (hQ : ∀ h', IsSI h' I (slotW w t (i + 1)) (i + 1) a es.size ep → Heap.SameBut I s.heap h' → Q (some v) { s with heap := h' }) : wpAny (model prog w) A (pyNext (.ref I)) Q E s := by
  have hT : s.TypeIs (.ref I) "set_iterator" := ⟨_, hit, rfl⟩
  have hi : i < es.size := by
    rw [← told_len w a ep es]
    exact (List.getElem?_eq_some_iff.mp hv).1
  unfold pyNext
  refine wpAny_bind (wpAny_attempt (wpAny_callSpecial?_slot (name := Str.ofString "__next__") hT slot_si_next (wpAny_call_entry slot_si_next hT entry_si_next ?_ (args_si_next _))))
  unfold Builtin.«set_iterator.__next__»
  refine wpAny_bind (m := slotArgs "__next__" 0 _) (wpAny_pure ?_)
  dsimp only
  unfold fieldsOf
  refine wpAny_bind (wpAny_bind (wpAny_load hit ?_))
  refine wpAny_pure ?_
  dsimp only [rawInt]
  unfold setEntries
  refine wpAny_bind (wpAny_bind (wpAny_setState_of ho hd (T.fits hn) (wpAny_pure ?_)))
  rw [if_neg (by simp)]
  simp only [Int.toNat_natCast]
  refine wpAny_bind (next_ok ho hd T hn (Nat.le_of_lt hi) ?_)
  rw [hv]
  dsimp only [Option.map]
  refine wpAny_bind (wpAny_setField_rec hit (by simp) fun h1 hit1 sb1 => ?_)
  refine wpAny_bind (wpAny_setField_rec hit1 (by simp) fun h2 hit2 sb2 => ?_)
  refine wpAny_pure ⟨v, rfl, wpAny_pure (hQ h2 ?_ (sb1.trans sb2))⟩
  show h2.get? I = _
  rw [hit2]
  simp [rawInt]

theorem si_next_end {Q : Option Value → Shared → Prop} (hh : A.handled = none) (ho : s.heap.get? a = some o) (hd : o.data = .set es ep t) (T : Tab t es.size (ledW w)) (hn : es.size ≤ 4)
    (hit : IsSI s.heap I (slotW w t es.size) es.size a es.size ep)
    (hQ : ∀ h', Heap.ExtBut I s.heap h' → Q none { s with heap := h' }) : wpAny (model prog w) A (pyNext (.ref I)) Q E s := by
  have hT : s.TypeIs (.ref I) "set_iterator" := ⟨_, hit, rfl⟩
  unfold pyNext
  refine wpAny_bind (wpAny_attempt (wpAny_callSpecial?_slot (name := Str.ofString "__next__") hT slot_si_next (wpAny_call_entry slot_si_next hT entry_si_next ?_ (args_si_next _))))
  unfold Builtin.«set_iterator.__next__»
  refine wpAny_bind (m := slotArgs "__next__" 0 _) (wpAny_pure ?_)
  dsimp only
  unfold fieldsOf
  refine wpAny_bind (wpAny_bind (wpAny_load hit ?_))
  refine wpAny_pure ?_
  dsimp only [rawInt]
  unfold setEntries
  refine wpAny_bind (wpAny_bind (wpAny_setState_of ho hd (T.fits hn) (wpAny_pure ?_)))
  rw [if_neg (by simp)]
  simp only [Int.toNat_natCast]
  refine wpAny_bind (next_ok ho hd T hn (Nat.le_refl _) ?_)
  rw [List.getElem?_eq_none (by rw [told_len]; exact Nat.le_refl _)]
  dsimp only [Option.map]
  refine wpAny_bind (wpAny_setField_rec hit (by simp) fun h1 hit1 sb1 => ?_)
  refine wpAny_bind ?_
  simp only [newExc, newTuple]
  refine wpAny_bind (wpAny_newObj_type ?_ (by size_fits))
  refine wpAny_bind (m := firstArgMember _ _) (wpAny_of_eq (a := Value.none) (by first | rfl | (simp only [firstArgMember]; rfl)) ?_)
  refine wpAny_newObj_type ?_ (by size_fits)
  simp only [raiseNew]
  refine wpAny_bind (wpAny_handled ?_)
  rw [show A.in1.handled = none from hh]
  refine wpAny_bind (wpAny_pure (wpAny_throw ?_))
  refine wpAny_bind (wpAny_isInstance (T := "StopIteration") (b := true) ⟨_, Heap.get?_push_size _ rfl, rfl⟩ isSubtype_stop ?_)
  exact wpAny_pure (hQ _ ((sb1.extBut.push _).push _))

theorem si_self {i : Nat} {slot n : Nat} {Q : Value → Shared → Prop} (hit : IsSI s.heap I slot i a n ep) (h : Q (.ref I) s) : wpAny (model prog w) A (pyIter (.ref I)) Q E s := by
  have hT : s.TypeIs (.ref I) "set_iterator" := ⟨_, hit, rfl⟩
  refine wpAny_pyIter_slot hT slot_si_iter (wpAny_call_entry slot_si_iter hT entry_si_iter ?_ (args_si_iter _))
  show wpAny _ _ (ret (.ref I)) _ _ s
  exact wpAny_pure ⟨_, rfl, "set_iterator", _, hT, slot_si_next.lookup, h⟩

theorem set_iter {Q : Value → Shared → Prop} (hx : o.ExactSet) (ho : s.heap.get? a = some o) (hd : o.data = .set es ep t) (T : Tab t es.size (ledW w)) (hn : es.size ≤ 4)
    (hQ : ∀ h', h'.get? s.heap.objs.size = some { cls := .type "set_iterator", dict := none, data := .fields #[rawInt (slotW w t 0), rawInt 0, .ref a, rawInt es.size, rawInt ep], slots := #[] } → (∀ b u, s.heap.get? b = some u → h'.get? b = some u) →
      h'.objs.size = s.heap.objs.size + 1 → Q (.ref s.heap.objs.size) { s with heap := h' }) : wpAny (model prog w) A (pyIter (.ref a)) Q E s := by
  have hT : s.TypeIs (.ref a) "set" := ⟨o, ho, hx.1⟩
  refine wpAny_pyIter_slot hT PySem.F.slot_set_iter (wpAny_call_entry PySem.F.slot_set_iter hT entry_set_iter ?_ (args_set_iter _))
  unfold Builtin.«frozenset.__iter__»
  refine wpAny_bind (show wpAny _ _ (pure a : Sem Addr) _ _ s from wpAny_pure ?_)
  unfold Builtin.Frozenset.sizeOf setEntries
  refine wpAny_bind (wpAny_bind (wpAny_bind (wpAny_setState_of ho hd (T.fits hn) (wpAny_pure (wpAny_pure ?_)))))
  dsimp only
  unfold setDrawn
  refine wpAny_bind (wpAny_bind (wpAny_setState_of ho hd (T.fits hn) ?_))
  dsimp only
  unfold setsByText
  refine wpAny_bind (wpAny_bind (wpAny_askSetting (wpAny_pure (wpAny_pure ?_))))
  show wpAny _ _ (if (!byTxt w && (!t.plain && decide (es.size > 1))) = true then _ else _) _ _ s
  rw [T.pl, Bool.not_true, Bool.false_and, Bool.and_false, if_neg Bool.false_ne_true]
  refine wpAny_bind (wpAny_pure ?_)
  refine wpAny_bind (wpAny_setEpoch_of ho hd (T.fits hn) ?_)
  refine wpAny_bind (wpAny_newObj_type (wpAny_pure ⟨_, rfl, "set_iterator", _, ⟨_, Heap.get?_push_size _ rfl, rfl⟩, slot_si_next.lookup, hQ _ ?_ (fun b u e => Heap.get?_push_of_some _ e) (Heap.size_push _ _)⟩) (by size_fits))
  have e0 : slotW w t 0 = 0 := by unfold slotW slotAt; split <;> rfl
  rw [e0]
  exact Heap.get?_push_size _ rfl

theorem walks_set (hh : A.handled = none) (hne : a ≠ I) (hd : o.data = .set es ep t) (T : Tab t es.size (ledW w)) (hn : es.size ≤ 4) :
    Walks prog w A I [I, a] [I] es.size (fun i v => (told w a ep es)[i]? = some v) (fun i h => IsSI h I (slotW w t i) i a es.size ep ∧ h.get? a = some o) where
  sub := fun b hb => by simp at hb; simp [hb]
  frame := fun _ _ _ st hk => ⟨hk I (by simp) _ st.1, hk a (by simp) _ st.2⟩
  item := fun i s Q E hi st hQ => by
    obtain ⟨v, hv⟩ : ∃ v, (told w a ep es)[i]? = some v := ⟨_, List.getElem?_eq_getElem (by rw [told_len]; exact hi)⟩
    exact si_next_item st.2 hd T hn st.1 hv fun h' hit' sb => hQ v h' s.toks hv ⟨hit', (sb.2 a hne).trans st.2⟩ fun b o hb e => (sb.2 b (fun z => hb (by simp [z]))).trans e
  done := fun s Q E st hQ => si_next_end hh st.2 hd T hn st.1 fun h' eb => hQ h' s.toks fun b o hb e => eb b o (fun z => hb (by simp [z])) e
  self := fun _ _ _ _ st hQ => si_self st.1 hQ
end
end SS
end
section
/-! small sets of ints: gathered into a list -/
namespace SS
open PySem
theorem slot_set_len : typeLookup (.type "set") "__len__" = pure (some (.builtin "set.__len__")) := by rw [typeLookup_type, builtinLookup_eq_fast]; kernel_rfl
section
variable {prog : Program} {w : World} {A : Around} {E : Value → Shared → Prop} {s : Shared} {a : Addr} {o : Obj} {es : Array (Int × Value)} {ep : Nat} {t : SetTable}

theorem hint_set {Q : Bool → Shared → Prop} (hT : s.TypeIs (.ref a) "set") (h : Q false s) : wpAny (model prog w) A (Builtin.List.listLengthHint (.ref a)) Q E s := by
  unfold Builtin.List.listLengthHint
  refine wpAny_bind (wpAny_specialOf hT slot_set_len ?_)
  generalize hid : ("set.__len__" : String) = id0
  wp_delta
  rw [show splitId id0 = some ("set", "__len__") from by subst hid; decide +kernel]
  subst hid
  refine wpAny_bind (wpAny_isInstance (b := true) hT (by rw [isSubtype_type]; kernel_rfl) ?_)
  refine wpAny_ite_split (fun q => absurd q (by decide)) (fun _ => ?_)
  refine wpAny_ite_split (fun _ => ?_) (fun q => absurd (by decide +kernel) q)
  exact wpAny_bind (wpAny_typeOf hT (wpAny_pure h))

theorem collect_set {Q : List Value → Shared → Prop} (hh : A.handled = none) (hx : o.ExactSet) (ho : s.heap.get? a = some o) (hd : o.data = .set es ep t) (T : Tab t es.size (ledW w)) (hn : es.size ≤ 4)
    (hQ : ∀ s', (∀ b u, s.heap.get? b = some u → s'.heap.get? b = some u) → s'.gens = s.gens → s'.drawn = s.drawn → s'.os = s.os → s.heap.objs.size < s'.heap.objs.size → Q (told w a ep es) s') : wpAny (model prog w) A (collect (.ref a)) Q E s := by
  have ha : a < s.heap.objs.size := Heap.lt_size ho
  have hSa : s.heap.objs.size ≠ a := Nat.ne_of_gt ha
  unfold collect
  refine wpAny_bind (wpAny_runValue (codeAny_builtin PySem.F.entry_proto_collect ?_))
  rw [Around.under_plainId PySem.F.plain_proto_collect _]
  show wpAny _ A.in1 (newList [] >>= fun l => again (.builtin "list.__iadd__" ⟨[l, .ref a], []⟩)) _ _ s
  refine wpAny_bind (wpAny_newObj_type (wpAny_pure ⟨plainId_quiet PySem.F.plain_list_iadd _, codeAny_builtin PySem.F.entry_list_iadd ?_⟩))
  rw [Around.under_plainId PySem.F.plain_list_iadd _]
  generalize hE : ({ s with heap := s.heap.push { cls := .type "list", dict := none, data := .seq ([] : List Value).toArray } } : Shared) = s1
  have ho1 : s1.heap.get? a = some o := by rw [← hE]; exact Heap.get?_push_of_some _ ho
  have hL1 : s1.heap.get? s.heap.objs.size = some { cls := .type "list", dict := none, data := .seq ([] : List Value).toArray } := by rw [← hE]; exact Heap.get?_push_size _ rfl
  have hz1 : s1.heap.objs.size = s.heap.objs.size + 1 := by rw [← hE]; exact Heap.size_push _ _
  have hT1 : s1.TypeIs (.ref a) "set" := ⟨o, ho1, hx.1⟩
  show wpAny _ A.in1 (Builtin.List.listExtendWith (.ref s.heap.objs.size) (.ref a) (.ref s.heap.objs.size)) _ _ _
  unfold Builtin.List.listExtendWith
  refine wpAny_bind (wpAny_typeOf hT1 ?_)
  have q1 : Builtin.List.listSameRef (.ref s.heap.objs.size) (.ref a) = false := by simp [Builtin.List.listSameRef, hSa]
  rw [if_neg (by rw [q1]; decide)]
  refine wpAny_bind (set_iter hx ho1 hd T hn fun h2 hI2 k2 z2 => ?_)
  refine wpAny_bind (wpAny_holding ?_)
  have ho2 : h2.get? a = some o := k2 _ _ ho1
  have hT2 : Shared.TypeIs { s1 with heap := h2 } (.ref a) "set" := ⟨o, ho2, hx.1⟩
  have hL2 := k2 _ _ hL1
  refine hint_set hT2 ?_
  rw [if_pos (by decide +kernel)]
  refine wpAny_bind (wpAny_rule ?_)
  have hne : s.heap.objs.size ≠ s1.heap.objs.size := by omega
  refine wpAny_bind ?_
  show wpAny _ A.in1 (updateSeq s.heap.objs.size (·.push .none) >>= fun _ => updateSeq s.heap.objs.size (·.pop)) _ _ _
  refine wpAny_bind (wpAny_updateSeq hL2 rfl ?_)
  have hL3 := Heap.get?_update_self (Obj.mapSeq (·.push Value.none)) hL2 rfl
  refine wpAny_updateSeq hL3 rfl ?_
  have hL4 := Heap.get?_update_self (Obj.mapSeq (·.pop)) hL3 rfl
  have oth : ∀ b u, b ≠ s.heap.objs.size → h2.get? b = some u → ((h2.update s.heap.objs.size (Obj.mapSeq (·.push Value.none))).update s.heap.objs.size (Obj.mapSeq (·.pop))).get? b = some u :=
    fun b u hb e => (Heap.get?_update_other _ _ (Ne.symm hb)).trans ((Heap.get?_update_other _ _ (Ne.symm hb)).trans e)
  have W := (walks_set (prog := prog) (A := A.in1) (a := a) (I := s1.heap.objs.size) hh (Nat.ne_of_lt (show a < s1.heap.objs.size by rw [hz1]; exact Nat.lt_succ_of_lt ha)) hd T hn).toS
  have z24 : es.size ≤ sizeLine := by rw [show sizeLine = 2 ^ 24 from rfl]; omega
  refine wpAny_pure ⟨plainId_quiet PySem.F.plain_extend_loop _, codeAny_extend_loopS W z24 s.heap.objs.size (by simp [hne, hSa]) _ es.size 0 _ _ _ rfl (Nat.zero_le _) ⟨oth _ _ (Ne.symm hne) hI2, oth _ _ (Ne.symm hSa) ho2⟩ hL4 (ItemsOf.nil _) fun s' acc' c' hm hS' hacc => ?_⟩
  show wpAny _ A (load s.heap.objs.size >>= _) _ _ s'
  refine wpAny_bind (wpAny_load hS' ?_)
  have eacc : acc'.toList = told w a ep es := by
    apply List.ext_getElem?
    intro i
    by_cases hi : i < es.size
    · have hi' : i < acc'.size := by rw [hacc.1]; exact hi
      have := hacc.2 i acc'[i] (by simp [hi'])
      rw [this]
      simp [hi']
    · rw [List.getElem?_eq_none (by rw [Array.length_toList, hacc.1]; omega), List.getElem?_eq_none (by rw [told_len]; omega)]
  refine wpAny_pure ?_
  rw [eacc]
  refine hQ s' (fun b u e => ?_) ?_ ?_ ?_ (Heap.lt_size hS')
  · have hb : b ≠ s.heap.objs.size := Nat.ne_of_lt (Heap.lt_size e)
    have hb1 : b ≠ s1.heap.objs.size := Nat.ne_of_lt (show b < s1.heap.objs.size by rw [hz1]; exact Nat.lt_succ_of_lt (Heap.lt_size e))
    exact hm.heap b u (by simp [hb, hb1]) (oth b u hb (k2 b u (by rw [← hE]; exact Heap.get?_push_of_some _ e)))
  · have := hm.gens; rw [← hE] at this; exact this
  · have := hm.drawn; rw [← hE] at this; exact this
  · have := hm.os; rw [← hE] at this; exact this
end
end SS
end
section
/-! small sets of ints: filled from what is walked -/
namespace SS
open PySem
theorem entry_upd_loop : entryFor table "set.update.loop" = some Builtin.«set.update.loop» := entryFor_of_fast (by kernel_rfl)
theorem plain_upd_loop : plainId "set.update.loop" = true := by decide +kernel
section
variable {prog : Program} {w : World} {A : Around} {R : Result → Shared → Prop} {I : Addr} {fp wr : List Addr} {n : Nat} {P : Nat → Value → Prop} {St : Nat → Shared → Prop}

theorem upd_loop (W : WalksS prog w A.in1 I fp wr (fun a b => b = a) n P St) (S : Addr) (hSf : S ∉ fp) (val : Nat → Int) (hval : ∀ i v, P i v → ∃ t, v = .int (val i) t) (hv : ∀ i, i < n → 0 ≤ val i ∧ val i < 32) (hn : n ≤ 4) :
    ∀ (k i : Nat) (s : Shared) (ks : List Int), n - i = k → i ≤ n → St i s → SetG w s.heap S ks → ks.length ≤ i → (∀ z, z ∈ ks ↔ ∃ j, j < i ∧ val j = z) →
      (∀ s' ks', Moved (S :: wr) (fun a b => b = a) s s' → SetG w s'.heap S ks' → (∀ z, z ∈ ks' ↔ ∃ j, j < n ∧ val j = z) → R (.ok (.ret .none)) s') →
      codeAny (model prog w) A (.builtin "set.update.loop" ⟨[.ref S, .ref I], []⟩) R s := by
  have hSw : S ∉ wr := fun h => hSf (W.sub _ h)
  have sub1 : ∀ b ∈ wr, b ∈ S :: wr := fun b hb => List.mem_cons_of_mem _ hb
  intro k
  induction k with
  | zero =>
    intro i s ks hk hi hst hS hl hm hR
    obtain rfl : i = n := by omega
    refine codeAny_builtin entry_upd_loop ?_
    rw [Around.under_plainId plain_upd_loop _]
    show wpAny _ A.in1 (pyNext (.ref I) >>= _) _ _ s
    refine wpAny_bind (W.done s _ _ hst fun s' mv => ?_)
    show wpAny _ A.in1 (ret Value.none) _ _ s'
    exact wpAny_pure (hR s' ks (mv.mono sub1) (hS.at fun o e => mv.heap S o hSw e) hm)
  | succ k ih =>
    intro i s ks hk hi hst hS hl hm hR
    have hlt : i < n := by omega
    refine codeAny_builtin entry_upd_loop ?_
    rw [Around.under_plainId plain_upd_loop _]
    show wpAny _ A.in1 (pyNext (.ref I) >>= _) _ _ s
    refine wpAny_bind (W.item i s _ _ hlt hst fun v s' hP hst' mv => ?_)
    obtain ⟨t, rfl⟩ := hval i v hP
    have hS' := hS.at (h' := s'.heap) fun o e => mv.heap S o hSw e
    show wpAny _ A.in1 (holding [Value.int (val i) t] (setAdd S (.int (val i) t)) >>= _) _ _ s'
    refine wpAny_bind (wpAny_holding ?_)
    unfold setAdd
    refine wpAny_holding (wpAny_bind (wpAny_pyHash_int ?_))
    refine add_ok (s := { s' with toks := s'.toks + 1 }) hS' (by omega) (hv i hlt).1 (hv i hlt).2 fun b h' ks' sb hS2 hm2 hl2 => ?_
    refine wpAny_pure ⟨plainId_quiet plain_upd_loop _, ih (i + 1) _ ks' (by omega) hlt (W.frame _ s' _ _ hst' (Nat.le_succ _) fun b hb o e => ?_) hS2 (by omega) (fun z => ?_) fun s'' ks'' mv2 hS3 hm3 => ?_⟩
    · rw [sb.2 b (fun h : b = S => hSf (by rw [← h]; exact hb))]
      exact e
    · rw [hm2, hm]
      constructor
      · rintro (h | ⟨j, hj, e⟩)
        · exact ⟨i, by omega, h.symm⟩
        · exact ⟨j, by omega, e⟩
      · rintro ⟨j, hj, e⟩
        by_cases hji : j = i
        · exact .inl (by rw [← e, hji])
        · exact .inr ⟨j, by omega, e⟩
    · refine hR s'' ks'' (Moved.trans W.gtrans ((mv.mono sub1).then_heap (Nat.le_succ _) fun b o hb e => ?_) mv2) hS3 hm3
      rw [sb.2 b (fun h : b = S => hb (by rw [h]; exact List.mem_cons_self))]
      exact e
end
end SS
end
section
/-! small sets of ints: set(list) -/
namespace SS
open PySem
section
variable {prog : Program} {w : World} {A : Around} {E : Value → Shared → Prop} {s : Shared}

/-- a new set, with what the world says of its places -/
theorem new_led (a : Value) {Q : Value → Shared → Prop}
    (h : Q (.ref s.heap.objs.size) { s with heap := s.heap.push { cls := .type "set", dict := none, data := .set #[] 0 (.fresh 0 0 (ledW w)) } }) :
    codeAny (model prog w) A (.call (.builtin "set.__new__") ⟨[.type "set", a], []⟩) (wants Q E) s := by
  refine codeAny_of_tree (show wpAny _ A.in1 (do checkBuiltinCall "set.__new__" ⟨[.type "set", a], []⟩; again (.builtin "set.__new__" ⟨[.type "set", a], []⟩)) _ _ s from ?_)
  refine wpAny_bind (wpAny_of_eq (F.newCall_set_1 a) (wpAny_pure ⟨plainId_quiet F.plain_set_new _, codeAny_builtin F.entry_set_new ?_⟩))
  rw [Around.under_plainId F.plain_set_new _]
  unfold Builtin.«set.__new__» Builtin.Frozenset.newClass
  have q := sub_set_self
  obtain ⟨hp, g, d, tk, os⟩ := s
  dsimp only
  wp_walk
  refine wpAny_askSetting (wpAny_pure ?_)
  dsimp only
  simp only [newObj]
  exact wpAny_bind (wpAny_alloc (wpAny_pure (wpAny_pure h)))

set_option maxHeartbeats 3200000 in
theorem set_of_list {l : Addr} {items : Array Value} {ns : List Int} {Q : Value → Shared → Prop} (hh : A.handled = none) (hl : s.heap.IsList l items) (hi : PyProof.Rows.IntsAre items.toList ns)
    (hn : items.size ≤ 4) (hv : ∀ z ∈ ns, 0 ≤ z ∧ z < 32)
    (h : ∀ (h' : Heap) (tk : Nat) (ks : List Int), SetG w h' s.heap.objs.size ks → (∀ z, z ∈ ks ↔ z ∈ ns) → (∀ b o, s.heap.get? b = some o → h'.get? b = some o) → Q (.ref s.heap.objs.size) { s with heap := h', toks := tk }) :
    wpAny (model prog w) A (call (.type "set") [.ref l]) Q E s := by
  obtain ⟨c, tl, hmro⟩ := F.called_set.mro
  have hmade := F.called_set.made
  have hsub := F.called_set.sub
  have g1 := F.called_set.notType
  have g2 := F.called_set.canCreate
  have g3 := F.typeCall_set_1 (.ref l)
  refine wpAny_call (codeAny_of_tree (show wpAny _ _ (callAny (.type "set") _) _ _ _ from ?_))
  refine wpAny_pure ⟨Code.quiet_builtin _ (by decide +kernel), codeAny_builtin F.entry_type_call ?_⟩
  rw [Around.under_plain (weight_type_call_type "set" [.ref l] []) rfl]
  repeat (any_goals (first | assumption | wp_step))
  have hlen : items.size = ns.length := by rw [← Array.length_toList]; exact hi.length
  refine codeAny_mono (new_led (.ref l) (E := E) (Q := fun obj z => obj = .ref s.heap.objs.size ∧ z = { s with heap := s.heap.push { cls := .type "set", dict := none, data := .set #[] 0 (.fresh 0 0 (ledW w)) } }) ⟨rfl, rfl⟩) fun r z hr => ?_
  cases r with
  | error e => exact hr
  | ok fl =>
    cases fl with
    | ret obj =>
      obtain ⟨rfl, rfl⟩ := hr
      generalize hO : ({ cls := .type "set", dict := none, data := .set #[] 0 (.fresh 0 0 (ledW w)) } : Obj) = oS
      have hS : (s.heap.push oS).get? s.heap.objs.size = some oS := Heap.get?_push_size _ (by rw [← hO]; rfl)
      have hT : Shared.TypeIs { s with heap := s.heap.push oS } (.ref s.heap.objs.size) "set" := ⟨_, hS, by rw [← hO]⟩
      have hli := F.called_set.init.lookup
      have hbi := F.called_set.init.bind (.ref s.heap.objs.size)
      repeat (any_goals (first | assumption | wp_step))
      refine codeAny_mono (codeAny_call_builtin (R := wants (fun r z2 => r = .none ∧ ∃ h' tk ks, z2 = { s with heap := h', toks := tk } ∧ SetG w h' s.heap.objs.size ks ∧ (∀ z, z ∈ ks ↔ z ∈ ns) ∧ (∀ b o, s.heap.get? b = some o → h'.get? b = some o)) E)
        F.called_set.init.plain F.entry_set_init (check_set_init_1 hT ?_)) fun r2 z2 hr2 => ?_
      · obtain ⟨ol, hol, hcl, nl, hdl⟩ := hl
        obtain ⟨ocls, odict, odata, oslots⟩ := ol
        simp only at hcl hdl
        subst hcl; subst hdl
        have hol' : (s.heap.push oS).get? l = some { cls := .type "list", dict := odict, data := .seq items nl, slots := oslots } := Heap.get?_push_of_some _ hol
        have y1 := F.sub_list_set
        have y2 := F.sub_list_frozenset
        have y3 : (Value.type "list" == Value.type "dict") = false := by decide
        have hl1 : (s.heap.push oS).IsList l items := ⟨_, hol', rfl, nl, rfl⟩
        subst hO
        unfold Builtin.«set.__init__» noKeywords Builtin.Frozenset.updateFrom
        generalize hPI : pyIter = PI
        wp_walk
        subst hPI
        refine wpAny_pyIter_list hl1 (wpAny_bind (wpAny_runValue ?_))
        have hlS : l < s.heap.objs.size := Heap.lt_size hol
        have hz1 : (s.heap.push { cls := .type "set", dict := none, data := .set #[] 0 (.fresh 0 0 (ledW w)) }).objs.size = s.heap.objs.size + 1 := Heap.size_push _ _
        have nI : l ≠ (s.heap.push { cls := .type "set", dict := none, data := .set #[] 0 (.fresh 0 0 (ledW w)) }).objs.size := by
          rw [hz1]
          exact Nat.ne_of_lt (Nat.lt_succ_of_lt hlS)
        have nS : s.heap.objs.size ∉ [(s.heap.push { cls := .type "set", dict := none, data := .set #[] 0 (.fresh 0 0 (ledW w)) }).objs.size, l] := by
          rw [hz1]
          simp only [List.mem_cons, List.not_mem_nil, or_false, not_or]
          exact ⟨Nat.ne_of_lt (Nat.lt_succ_self _), Nat.ne_of_gt hlS⟩
        have hget : ((s.heap.push { cls := .type "set", dict := none, data := .set #[] 0 (.fresh 0 0 (ledW w)) }).push { cls := .type "list_iterator", data := .fields #[.ref l, .int 0 0] }).get? s.heap.objs.size
            = some { cls := .type "set", dict := none, data := .set #[] 0 (.fresh 0 0 (ledW w)) } := Heap.get?_push_of_some _ hS
        refine upd_loop ((Walks.list (by simp [hh]) _ l nI items).toS) s.heap.objs.size nS (fun i => ns.getD i 0) (fun i v q => PyProof.Rows.IntsAre.int_at hi i v (by rw [Array.getElem?_toList]; exact q))
          (fun i q => hv _ ?_) hn (items.size - 0) 0 _ [] rfl (Nat.zero_le _) ⟨⟨_, Heap.get?_push_size _ rfl, rfl, rfl⟩, hl1.push _⟩ ⟨⟨_, #[], 0, _, hget, ⟨rfl, rfl, rfl⟩, rfl, .nil, tab_fresh _⟩, List.nodup_nil, Nat.zero_le _⟩ (Nat.le_refl _) (fun z => ⟨fun q => by (cases q), fun ⟨j, q, _⟩ => absurd q (Nat.not_lt_zero _)⟩) ?_
        · have q' : i < ns.length := by rw [← hlen]; exact q
          simp [List.getD, q']
        · intro s' ks mv S' hm
          obtain ⟨h', g', d', tk', os'⟩ := s'
          have e1 : g' = s.gens := mv.gens
          have e2 : d' = s.drawn := mv.drawn
          have e3 : os' = s.os := mv.os
          subst e1; subst e2; subst e3
          refine wpAny_pure (wpAny_pure ⟨rfl, h', tk', ks, rfl, S', fun z => ?_, fun b o e => ?_⟩)
          · rw [hm]
            constructor
            · rintro ⟨j, hj, e⟩
              have hj' : j < ns.length := by rw [← hlen]; exact hj
              rw [← e]
              simp [List.getD, hj']
            · intro hz
              obtain ⟨j, hj, e⟩ := List.getElem_of_mem hz
              exact ⟨j, by rw [hlen]; exact hj, by simp [List.getD, hj, e]⟩
          · have hb := Heap.lt_size e
            refine mv.heap b o ?_ (Heap.get?_push_of_some _ (Heap.get?_push_of_some _ e))
            rw [hz1]
            simp only [List.mem_cons, List.not_mem_nil, or_false, not_or]
            exact ⟨Nat.ne_of_lt hb, Nat.ne_of_lt (Nat.lt_succ_of_lt hb)⟩
      · cases r2 with
        | error e => exact hr2
        | ok fl2 =>
          cases fl2 with
          | ret r =>
            obtain ⟨rfl, h', tk, ks, rfl, hS', hm, hk⟩ := hr2
            repeat (any_goals (first | assumption | wp_step))
            exact h _ _ _ hS' hm hk
          | _ => exact hr2.elim
    | _ => exact hr.elim
end
end SS
end
section
/-! small sets of ints: sorted(set) -/
namespace SS
open PySem PyProof.Rows
section
variable {prog : Program} {w : World} {A : Around} {E : Value → Shared → Prop} {s : Shared} {a : Addr} {ks : List Int}

theorem ints_of : ∀ {vs : List Value} {ks : List Int}, Paired (fun v k => ∃ t, v = Value.int k t) vs ks → IntsAre vs ks
  | _, _, .nil => .nil
  | _, _, .cons ⟨t, e⟩ r => by subst e; exact .cons _ t (ints_of r)
theorem paired_map {es : List (Int × Value)} : ∀ {ks : List Int}, Paired El es ks → Paired (fun v k => ∃ t, v = Value.int k t) (es.map (·.2)) ks
  | _, .nil => .nil
  | _, .cons ⟨_, q⟩ r => .cons q (paired_map r)
/-- the other order of the values goes with another order of the keys -/
theorem paired_perm {α β : Type} {F : α → β → Prop} {l l' : List α} (p : l'.Perm l) : ∀ {r : List β}, Paired F l r → ∃ r', Paired F l' r' ∧ r'.Perm r := by
  induction p with
  | nil => intro r h; cases h; exact ⟨[], .nil, .nil⟩
  | cons x _ ih =>
    intro r h
    cases h with
    | cons f t =>
      obtain ⟨r', h1, h2⟩ := ih t
      exact ⟨_ :: r', .cons f h1, h2.cons _⟩
  | swap x y l =>
    intro r h
    cases h with
    | cons f t =>
      cases t with
      | cons g t => exact ⟨_, .cons g (.cons f t), .swap _ _ _⟩
  | trans _ _ ih1 ih2 =>
    intro r h
    obtain ⟨r1, h1, h2⟩ := ih2 h
    obtain ⟨r2, h3, h4⟩ := ih1 h1
    exact ⟨r2, h3, h4.trans h2⟩

theorem sorted_set {Q : Value → Shared → Prop} (hh : A.handled = none) (S : SetG w s.heap a ks)
    (h : ∀ (s' : Shared) (l : Addr) (vs : List Value) (ns : List Int) (e : Nat), s.heap.objs.size ≤ l → (∀ b u, s.heap.get? b = some u → s'.heap.get? b = some u) → s'.gens = s.gens → s'.drawn = s.drawn → s'.os = s.os →
      s'.heap.get? l = some { cls := .type "list", data := .seq vs.toArray e } → IntsAre vs ns → ns.Perm ks → ns.Pairwise (· ≤ ·) → Q (.ref l) s') :
    wpAny (model prog w) A (call (.builtin "sorted") [.ref a]) Q E s := by
  obtain ⟨o, es, ep, t, ho, hex, hd, hp, T⟩ := S.ex
  have hn : es.size ≤ 4 := by
    have := Paired.length hp
    rw [Array.length_toList] at this
    have := S.len
    omega
  refine Calls.call_function_entry kind_sorted plain_sorted entry_sorted (args_sorted1 _) ?_
  unfold Builtin.«sorted»
  refine wpAny_bind (m := checkCount "sorted" 1 1 _) (wpAny_pure ?_)
  refine wpAny_bind (collect_set (A := A.in1) hh hex ho hd T hn fun s1 k1 g1 d1 o1 z1 => ?_)
  refine wpAny_bind (wpAny_newList ?_ (by rw [told_len, show sizeLine = 2 ^ 24 from rfl]; omega))
  obtain ⟨ks1, hp1, pm1⟩ := paired_perm (told_perm w a ep es) (paired_map hp)
  have hI := ints_of hp1
  have hl : (told w a ep es).length < 64 := by rw [told_len]; omega
  have hL : (s1.heap.push (seqObj "list" (told w a ep es).toArray 0)).get? s1.heap.objs.size = some (seqObj "list" (told w a ep es).toArray 0) := Heap.get?_push_size _ rfl
  show wpAny _ _ _ _ _ { s1 with heap := s1.heap.push (seqObj "list" (told w a ep es).toArray 0) }
  refine wpAny_bind (wpAny_holding (wpAny_call_entry slot_list_sort ⟨_, hL, rfl⟩ entry_list_sort (list_sort_tree hL hI hl fun out ns' a1 a2 a3 => ⟨_, rfl, ?_⟩) (args_list_sort _)))
  obtain ⟨e, he⟩ := sortedHeap_at (out := out) hL
  have kept : ∀ b u, s.heap.get? b = some u → (sortedHeap (s1.heap.push (seqObj "list" (told w a ep es).toArray 0)) s1.heap.objs.size (told w a ep es) out).get? b = some u := fun b u q => by
    have q1 := k1 b u q
    have hb : b < s1.heap.objs.size := Heap.lt_size q1
    rw [sortedHeap_old (Nat.ne_of_lt hb) (by rw [size_push']; exact Nat.lt_succ_of_lt hb)]
    exact Heap.get?_push_of_some _ q1
  generalize sortedHeap (s1.heap.push (seqObj "list" (told w a ep es).toArray 0)) s1.heap.objs.size (told w a ep es) out = hf at he kept ⊢
  exact wpAny_pure ⟨_, rfl, h { s1 with heap := hf } s1.heap.objs.size out.toList ns' e (Nat.le_of_lt z1) kept g1 d1 o1 (by rw [Array.toArray_toList]; exact he) a1 (a2.trans pm1) a3⟩
end
end SS
end
section
/-! THE HAND LAYER, for ints, bools, texts, own classes, LISTS and tuples (index, slices, in, append, pop ..), calls, loops. Paste it whole ahead of your own text; what your proof does not reach may be deleted. -/
namespace L2
open PySem PySem.Spec PyProof.Rows

/-- a key: an int or a str -/
abbrev Key := Sum Int Str
def keyIs : Key → Value → Bool
  | .inl k, v => Value.isInt k v
  | .inr x, v => Value.isStrOf x v
def keyH (w : World) : Key → Int
  | .inl k => hashInt k
  | .inr x => hashStr w x
theorem keyIs_shape : ∀ {k : Key} {v : Value}, keyIs k v = true → (∃ i t, k = Sum.inl i ∧ v = Value.int i t) ∨ (∃ x t, k = Sum.inr x ∧ v = Value.str x t)
  | .inl i, v, h => by
    obtain ⟨t, e⟩ := Value.isInt_shape (k := i) (v := v) h
    exact .inl ⟨i, t, rfl, e⟩
  | .inr x, v, h => by
    obtain ⟨t, e⟩ := Value.isStrOf_shape (x := x) (v := v) h
    exact .inr ⟨x, t, rfl, e⟩
theorem keyIs_int (i : Int) (t : Tok) : keyIs (.inl i) (.int i t) = true := by simp [keyIs, Value.isInt]
theorem keyIs_str (x : Str) (t : Tok) : keyIs (.inr x) (.str x t) = true := by simp [keyIs, Value.isStrOf]
theorem key_ll (a b : Int) : decide ((Sum.inl a : Key) = Sum.inl b) = (a == b) := by
  by_cases e : a = b
  · subst e; simp
  · have h : ¬ (Sum.inl a : Key) = Sum.inl b := fun q => e (Sum.inl.inj q)
    rw [decide_eq_false h]
    exact (beq_eq_false_iff_ne.mpr e).symm
theorem key_rr (a b : Str) : decide ((Sum.inr a : Key) = Sum.inr b) = decide (a = b) := by
  by_cases e : a = b
  · subst e; simp
  · have h : ¬ (Sum.inr a : Key) = Sum.inr b := fun q => e (Sum.inr.inj q)
    rw [decide_eq_false h, decide_eq_false e]
theorem key_lr (a : Int) (b : Str) : decide ((Sum.inl a : Key) = Sum.inr b) = false := decide_eq_false (fun q => nomatch q)
theorem key_rl (a : Str) (b : Int) : decide ((Sum.inr a : Key) = Sum.inl b) = false := decide_eq_false (fun q => nomatch q)

def mixKind (prog : Program) (w : World) : PySem.KeyKind prog w Key where
  is := keyIs
  hash := keyH w
  inj := fun v a b ha hb => by
    rcases keyIs_shape ha with ⟨i, t, rfl, rfl⟩ | ⟨x, t, rfl, rfl⟩
    · rcases keyIs_shape hb with ⟨j, u, rfl, e⟩ | ⟨y, u, rfl, e⟩
      · injection e with e1 _; rw [e1]
      · exact nomatch e
    · rcases keyIs_shape hb with ⟨j, u, rfl, e⟩ | ⟨y, u, rfl, e⟩
      · exact nomatch e
      · injection e with e1 _; rw [e1]
  byValue := fun k v h => by
    rcases keyIs_shape h with ⟨i, t, rfl, rfl⟩ | ⟨x, t, rfl, rfl⟩ <;> rfl
  pyHash := fun hv h => by
    rcases keyIs_shape hv with ⟨i, t, rfl, rfl⟩ | ⟨x, t, rfl, rfl⟩
    · exact wpAny_pyHash_int h
    · exact wpAny_pyHash_str h
  eqBool := fun hu hv h => by
    rcases keyIs_shape hu with ⟨i, t, rfl, rfl⟩ | ⟨x, t, rfl, rfl⟩
    · rcases keyIs_shape hv with ⟨j, u, rfl, rfl⟩ | ⟨y, u, rfl, rfl⟩
      · rw [key_ll] at h; exact wpAny_eqBool_int h
      · rw [key_lr] at h; exact SeqAt.EqAt.int_str i t y u _ _ _ _ h
    · rcases keyIs_shape hv with ⟨j, u, rfl, rfl⟩ | ⟨y, u, rfl, rfl⟩
      · rw [key_rl] at h; exact SeqAt.EqAt.str_int x t j u _ _ _ _ h
      · rw [key_rr] at h; exact wpAny_eqBool_str h
  «strs» := fun k x t v h => by
    rcases keyIs_shape h with ⟨i, u, rfl, e⟩ | ⟨y, u, rfl, e⟩
    · exact nomatch e
    · injection e with e1 _
      subst e1
      cases v <;> rfl

theorem mixKind_int (prog : Program) (w : World) (i : Int) (t : Tok) : (mixKind prog w).is (.inl i) (.int i t) = true := keyIs_int i t
theorem mixKind_str (prog : Program) (w : World) (x : Str) (t : Tok) : (mixKind prog w).is (.inr x) (.str x t) = true := keyIs_str x t
end L2

namespace L2
open PySem PySem.Spec PyProof.Rows

/-- a value, without the heap -/
inductive V where
  | non | bl (b : Bool) | int (i : Int) | str (x : Str) | byt (b : Array UInt8) | flt (b : UInt64) | ref (a : Addr) | ty (n : String)
  deriving DecidableEq

def RelV : V → Value → Prop
  | .non, u => u = Value.none
  | .bl b, u => u = Value.bool b
  | .int i, u => ∃ t, u = Value.int i t
  | .str x, u => ∃ t, u = Value.str x t
  | .byt b, u => ∃ t, u = Value.bytes b t
  | .flt b, u => ∃ t, u = Value.float b t
  | .ref a, u => u = Value.ref a
  | .ty n, u => u = Value.type n

abbrev Vals : List V → List Value → Prop := Paired RelV
theorem Vals.length {xs : List V} {us : List Value} (r : Vals xs us) : xs.length = us.length := Paired.length r
theorem Vals.get : ∀ {xs : List V} {us : List Value} {i : Nat} {x : V}, Vals xs us → xs[i]? = some x → ∃ u, us[i]? = some u ∧ RelV x u
  | _, _, _, _, .nil, e => by simp at e
  | _, _, 0, _, .cons r _, e => by simp at e; subst e; exact ⟨_, rfl, r⟩
  | _, _, i + 1, x, .cons _ t, e => by
    obtain ⟨u, h1, h2⟩ := Vals.get (i := i) (x := x) t (by simpa using e)
    exact ⟨u, by simpa using h1, h2⟩
theorem Vals.set {x : V} {u : Value} (r : RelV x u) : ∀ {xs : List V} {us : List Value} (i : Nat), Vals xs us → Vals (xs.set i x) (us.set i u)
  | _, _, _, .nil => .nil
  | _, _, 0, .cons _ t => .cons r t
  | _, _, i + 1, .cons q t => .cons q (Vals.set r i t)
theorem Vals.append : ∀ {xs ys : List V} {us ws : List Value}, Vals xs us → Vals ys ws → Vals (xs ++ ys) (us ++ ws)
  | _, _, _, _, .nil, s => s
  | _, _, _, _, .cons r t, s => .cons r (Vals.append t s)
theorem Vals.take : ∀ {xs : List V} {us : List Value} (n : Nat), Vals xs us → Vals (xs.take n) (us.take n)
  | _, _, 0, _ => .nil
  | _, _, _ + 1, .nil => .nil
  | _, _, n + 1, .cons r t => .cons r (Vals.take n t)
theorem Vals.drop : ∀ {xs : List V} {us : List Value} (n : Nat), Vals xs us → Vals (xs.drop n) (us.drop n)
  | _, _, 0, r => r
  | _, _, _ + 1, .nil => .nil
  | _, _, n + 1, .cons _ t => Vals.drop n t

def RelO : Option V → Option Value → Prop
  | some v, some u => RelV v u
  | none, none => True
  | _, _ => False
def KV {κ : Type} : List (κ × V) → List (κ × Value) → Prop := Paired fun (p : κ × V) (q : κ × Value) => p.1 = q.1 ∧ RelV p.2 q.2

/-- a key of a dict (00_mix): an int or a text -/
def kV : Key → V
  | .inl i => .int i
  | .inr x => .str x

/-- a tuple, the whole object -/
def TupO (h : Heap) (a : Addr) (items : Array Value) : Prop := ∃ n, h.get? a = some { cls := .type "tuple", data := .seq items n }
theorem TupO.isTup {h : Heap} {a : Addr} {items : Array Value} (x : TupO h a items) : IsTup h a items := let ⟨n, e⟩ := x; ⟨_, e, rfl, n, rfl⟩
theorem TupO.new (h : Heap) (items : Array Value) : TupO (h.push { cls := .type "tuple", data := .seq items }) h.objs.size items := ⟨0, Heap.get?_push_size _ rfl⟩
/-- what stands at a tracked address -/
inductive HO where
  /-- a list -/
  | lst (xs : List V)
  /-- a tuple (never changes) -/
  | tup (xs : List V)
  /-- a dict whose keys are ints and texts; one whose keys are tuples of ints and texts (the empty one is both) -/
  | dK (kvs : List (Key × V)) | dT (kvs : List (List Key × V))
  /-- a set of ints: its members, its size -/
  | set (S : Int → Bool) (n : Nat)
  /-- an instance of the class at C, its dict at dx, its attributes -/
  | ins (C dx : Addr) (fs : List (Str × V))
  /-- the dict of the instance at x -/
  | own (x : Addr)
  /-- the dict of an exception -/
  | xd (fs : List (Str × V))
  /-- a bound method, f of x -/
  | met (f x : Addr)
  /-- a range object lo, lo + 1, .. below hi -/
  | rng (lo hi : Int)
  /-- a thing that is known to the object (the script; a dict while a loop walks it): read, never written while it is so -/
  | frz (o : Obj) (u : HO)
  /-- a code object's table -/
  | tbl (ps : Array Value)
  /-- any other thing, by what is true of its one object (a def of one's own: SetO a S n := HO.ext fun h => ..) -/
  | ext (φ : Heap → Prop)

abbrev Hp := Addr → Option HO
def upd (H : Hp) (a : Addr) (o : HO) : Hp := fun b => if b = a then some o else H b
theorem upd_same {H : Hp} {a : Addr} {o : HO} : upd H a o a = some o := by unfold upd; rw [if_pos rfl]
theorem upd_ne {H : Hp} {a b : Addr} {o : HO} (h : b ≠ a) : upd H a o b = H b := by unfold upd; rw [if_neg h]
/-- two objects of different content stand apart -/
theorem ne_of {H : Hp} {a b : Addr} {o u : HO} (h : H a = some o) (h' : H b = some u) (d : o ≠ u) : a ≠ b := by
  intro e; subst e; rw [h] at h'; exact d (Option.some.inj h')
theorem ne_of_none {H : Hp} {a b : Addr} {o : HO} (h : H a = some o) (h' : H b = none) : a ≠ b := by
  intro e; subst e; rw [h] at h'; cases h'

section
variable (P : Program) (w : World)
def ObjOk (H : Hp) (h : Heap) (a : Addr) : HO → Prop
  | .lst xs => xs.length ≤ sizeLine ∧ ∃ (its : List Value) (n : Nat), Vals xs its ∧ h.get? a = some { cls := .type "list", data := .seq its.toArray n }
  | .tup xs => xs.length ≤ sizeLine ∧ ∃ its : List Value, Vals xs its ∧ TupO h a its.toArray
  | .dK kvs => kvs.length ≤ sizeLine ∧ (a == sysModules) = false ∧ ∃ vs, KV kvs vs ∧ h.DictOf (mixKind P w) a vs
  | .dT kvs => kvs.length ≤ sizeLine ∧ (a == sysModules) = false ∧ ∃ xs : List (List Key × Addr × Value),
      Paired (fun (p : List Key × V) (q : List Key × Addr × Value) => p.1 = q.1 ∧ H q.2.1 = some (.tup (p.1.map kV)) ∧ RelV p.2 q.2.2) kvs xs ∧
      ∃ o es ep, h.get? a = some o ∧ o.ExactDict ∧ o.data = .dict es ep ∧ es.toList = xs.map (entryOfKey (tupleKind (mixKind P w))) ∧ (xs.map (·.1)).Nodup
  | .set S n => h.SetOf (intKind P w) a S n
  | .ins C dx fs => H dx = some (.own a) ∧ fs.length ≤ 1000 ∧ dx ≠ a ∧ h.get? a = some (PySem.W.instObj C dx) ∧
      ∃ mA, h.Ns1 dx mA ∧ (∀ f, RelO (fs.lookup f) (mA f)) ∧ PySem.Within mA (fs.map (·.1))
  | .own _ => ∃ o, h.get? a = some o
  | .xd fs => ∃ mA, h.Ns1 a mA ∧ ∀ f, RelO (fs.lookup f) (mA f)
  | .rng lo hi => ∃ t u v, h.get? a = some { cls := .type "range", data := .fields #[.int lo t, .int hi u, .int 1 v] }
  | .frz o u => h.get? a = some o ∧ ObjOk H h a u
  | .tbl ps => h.get? a = some { cls := .none, data := .fields ps }
  | .met f x => h.get? a = some (PySem.W.methodObj (.ref f) (.ref x))
  | .ext φ => φ h ∧ (∃ o, h.get? a = some o) ∧ ∀ h1 h2 : Heap, φ h1 → (∀ o, h1.get? a = some o → h2.get? a = some o) → φ h2
/-- the abstract heap is held -/
def HOk (H : Hp) (h : Heap) : Prop := ∀ a o, H a = some o → ObjOk P w H h a o
end

section
variable {P : Program} {w : World} {H H' : Hp} {h h' : Heap} {a : Addr} {o : HO}
theorem ObjOk.lt (x : ObjOk P w H h a o) : a < h.objs.size := by
  cases o with
  | lst xs => obtain ⟨_, _, _, _, e⟩ := x; exact Heap.lt_size e
  | tup xs => obtain ⟨_, _, _, _, e⟩ := x; exact Heap.lt_size e
  | dK kvs => obtain ⟨_, _, _, _, o, _, _, e, _⟩ := x; exact Heap.lt_size e
  | dT kvs => obtain ⟨_, _, _, _, o, _, _, e, _⟩ := x; exact Heap.lt_size e
  | set S n => obtain ⟨o, _, _, _, e, _⟩ := x; exact Heap.lt_size e
  | ins C dx fs => obtain ⟨_, _, _, e, _⟩ := x; exact Heap.lt_size e
  | own y => obtain ⟨_, e⟩ := x; exact Heap.lt_size e
  | xd fs => obtain ⟨_, ⟨_, _, _, e, _⟩, _⟩ := x; exact Heap.lt_size e
  | rng lo hi => obtain ⟨_, _, _, e⟩ := x; exact Heap.lt_size e
  | frz ob u => obtain ⟨e, _⟩ := x; exact Heap.lt_size e
  | tbl ps => exact Heap.lt_size (show h.get? a = some _ from x)
  | met f y => exact Heap.lt_size (show h.get? a = some _ from x)
  | ext φ => obtain ⟨_, ⟨_, e⟩, _⟩ := x; exact Heap.lt_size e
theorem Paired.mapP {α β : Type} {F G : α → β → Prop} : ∀ {l₁ : List α} {l₂ : List β}, Paired F l₁ l₂ → (∀ a b, F a b → G a b) → Paired G l₁ l₂
  | _, _, .nil, _ => .nil
  | _, _, .cons r t, f => .cons (f _ _ r) (Paired.mapP t f)
/-- what an object's description leans on: its own object, its own dict, the tuples -/
theorem ObjOk.stay (x : ObjOk P w H h a o) (k : ∀ b u, (b = a ∨ H b = some (.own a)) → h.get? b = some u → h'.get? b = some u)
    (ho : ∀ b, H b = some (.own a) → H' b = some (.own a)) (ht : ∀ b xs, H b = some (.tup xs) → H' b = some (.tup xs)) : ObjOk P w H' h' a o := by
  induction o with
  | lst xs => obtain ⟨z, its, n, r, e⟩ := x; exact ⟨z, its, n, r, k _ _ (.inl rfl) e⟩
  | tup xs => obtain ⟨z, its, r, n, e⟩ := x; exact ⟨z, its, r, n, k _ _ (.inl rfl) e⟩
  | dK kvs => obtain ⟨z, y, vs, r, ob, es, ep, e, c⟩ := x; exact ⟨z, y, vs, r, ob, es, ep, k _ _ (.inl rfl) e, c⟩
  | dT kvs =>
    obtain ⟨z, y, xs, r, ob, es, ep, e, c⟩ := x
    exact ⟨z, y, xs, Paired.mapP r fun p q z => ⟨z.1, ht _ _ z.2.1, z.2.2⟩, ob, es, ep, k _ _ (.inl rfl) e, c⟩
  | set S n => obtain ⟨ob, es, ep, t, e, c⟩ := x; exact ⟨ob, es, ep, t, k _ _ (.inl rfl) e, c⟩
  | ins C dx fs =>
    obtain ⟨d, z, ne, e, mA, ⟨od, es, ep, e2, c⟩, r⟩ := x
    exact ⟨ho _ d, z, ne, k _ _ (.inl rfl) e, mA, ⟨od, es, ep, k _ _ (.inr d) e2, c⟩, r⟩
  | own y => obtain ⟨ob, e⟩ := x; exact ⟨ob, k _ _ (.inl rfl) e⟩
  | xd fs => obtain ⟨mA, ⟨od, es, ep, e, c⟩, r⟩ := x; exact ⟨mA, ⟨od, es, ep, k _ _ (.inl rfl) e, c⟩, r⟩
  | rng lo hi => obtain ⟨t, u, v, e⟩ := x; exact ⟨t, u, v, k _ _ (.inl rfl) e⟩
  | frz ob u ih => obtain ⟨e, q⟩ := x; exact ⟨k _ _ (.inl rfl) e, ih q⟩
  | tbl ps =>
    have e : h.get? a = some { cls := .none, data := .fields ps } := x
    show h'.get? a = some { cls := .none, data := .fields ps }
    exact k a _ (.inl rfl) e
  | met f y =>
    have e : h.get? a = some (PySem.W.methodObj (.ref f) (.ref y)) := x
    show h'.get? a = some (PySem.W.methodObj (.ref f) (.ref y))
    exact k a _ (.inl rfl) e
  | ext φ => obtain ⟨p, ⟨o, e⟩, st⟩ := x; exact ⟨st _ _ p fun o q => k _ _ (.inl rfl) q, ⟨o, k _ _ (.inl rfl) e⟩, st⟩
theorem HOk.lt (x : HOk P w H h) (e : H a = some o) : a < h.objs.size := (x a o e).lt
theorem HOk.fresh (x : HOk P w H h) (e : h.objs.size ≤ a) : H a = none := by
  cases q : H a with
  | none => rfl
  | some u => exact absurd (Nat.lt_of_lt_of_le (x.lt q) e) (Nat.lt_irrefl _)
/-- every object of the heap is kept -/
theorem HOk.kept (x : HOk P w H h) (k : ∀ b u, h.get? b = some u → h'.get? b = some u) : HOk P w H h' := fun a o e =>
  (x a o e).stay (fun b u _ q => k b u q) (fun _ q => q) fun _ _ q => q
/-- a new object is laid and tracked -/
theorem HOk.laid (x : HOk P w H h) (k : ∀ b u, h.get? b = some u → h'.get? b = some u) (hp : h.objs.size ≤ a) (new : ObjOk P w (upd H a o) h' a o) : HOk P w (upd H a o) h' := fun b u e => by
  have hn := x.fresh hp
  by_cases hb : b = a
  · subst hb; rw [upd_same] at e; cases e; exact new
  · rw [upd_ne hb] at e
    exact (x b u e).stay (fun c v _ q => k c v q) (fun c q => by rw [upd_ne (ne_of_none q hn)]; exact q) fun c xs q => by rw [upd_ne (ne_of_none q hn)]; exact q
end

/-- what may be read as u: it is u, or a known u -/
def Rd (H : Hp) (a : Addr) (u : HO) : Prop := H a = some u ∨ ∃ o, H a = some (.frz o u)
theorem Rd.ok {P : Program} {w : World} {H : Hp} {h : Heap} {a : Addr} {u : HO} (r : Rd H a u) (x : HOk P w H h) : ObjOk P w H h a u := by
  rcases r with r | ⟨o, r⟩
  · exact x a u r
  · obtain ⟨_, q⟩ := x a _ r
    exact q
/-- what may be written -/
def Mut : Option HO → Prop
  | some (.lst _) => True
  | some (.dK _) => True
  | some (.dT _) => True
  | some (.set _ _) => True
  | some (.ins _ _ _) => True
  | some (.ext _) => True
  | _ => False
section
variable {P : Program} {w : World} {H : Hp} {h h' : Heap} {x e : Addr} {o' : HO}
/-- the object at e is changed: x itself, or the dict of the instance x -/
theorem HOk.write (ok : HOk P w H h) (mu : Mut (H x)) (he : e = x ∨ H e = some (.own x)) (k : ∀ b u, b ≠ e → h.get? b = some u → h'.get? b = some u) (heo : ∃ u, h'.get? e = some u)
    (new : ObjOk P w (upd H x o') h' x o') : HOk P w (upd H x o') h' := fun b u q => by
  have nown : ∀ c y, H c = some (.own y) → c ≠ x := fun c y r z => by subst z; rw [r] at mu; exact mu
  have ntup : ∀ c xs, H c = some (.tup xs) → c ≠ x := fun c xs r z => by subst z; rw [r] at mu; exact mu
  by_cases hb : b = x
  · subst hb; rw [upd_same] at q; cases q; exact new
  · rw [upd_ne hb] at q
    by_cases hbe : b = e
    · have q' : H b = some (.own x) := by
        rcases he with z | z
        · exact absurd (hbe.trans z) hb
        · rw [hbe]; exact z
      rw [q] at q'; cases q'
      obtain ⟨v, hv⟩ := heo
      exact ⟨v, by rw [hbe]; exact hv⟩
    · refine (ok b u q).stay (fun c v hc r => k c v ?_ r) (fun c r => by rw [upd_ne (nown c b r)]; exact r) fun c xs r => by rw [upd_ne (ntup c xs r)]; exact r
      rcases hc with rfl | hc
      · exact hbe
      · rintro rfl
        rcases he with z | z
        · exact nown c b hc z
        · rw [hc] at z; cases z; exact hb rfl
end

/-! ### kept unless tracked; of the frames at fs (the callers') the slots may change (an exception that passes writes there); of the records at ex (iterators) nothing is said -/
structure Un (fs ex : List Addr) (H H' : Hp) (h h' : Heap) : Prop where
  keep : ∀ b o, h.get? b = some o → H b = none → b ∉ fs → b ∉ ex → h'.get? b = some o
  slot : ∀ b o, h.get? b = some o → H b = none → b ∈ fs → b ∉ ex → ∃ sl, h'.get? b = some { o with slots := sl }
  free : ∀ b o, h.get? b = some o → H b = none → b ∉ ex → H' b = none
  there : ∀ b o, h.get? b = some o → b ∉ ex → ∃ o', h'.get? b = some o'
  tups : ∀ b xs, H b = some (.tup xs) → H' b = some (.tup xs)
  frzs : ∀ b o u, H b = some (.frz o u) → H' b = some (.frz o u)
  tbls : ∀ b ps, H b = some (.tbl ps) → ∃ more, H' b = some (.tbl (ps ++ more))
section
variable {fs fs' ex ex' : List Addr} {H H1 H2 : Hp} {h h1 h2 h' : Heap} {a x e : Addr} {o : HO}
theorem Un.any (u : Un fs ex H H1 h h1) {b : Addr} {ob : Obj} (q : h.get? b = some ob) (n : H b = none) (hx : b ∉ ex) : ∃ sl, h1.get? b = some { ob with slots := sl } := by
  by_cases hb : b ∈ fs
  · exact u.slot b ob q n hb hx
  · exact ⟨ob.slots, u.keep b ob q n hb hx⟩
theorem Un.kept (k : ∀ b u, h.get? b = some u → h'.get? b = some u) : Un fs ex H H h h' :=
  ⟨fun b ob q _ _ _ => k b ob q, fun b ob q _ _ _ => ⟨ob.slots, k b ob q⟩, fun _ _ _ n _ => n, fun b ob q _ => ⟨ob, k b ob q⟩, fun _ _ q => q, fun _ _ _ q => q, fun _ ps q => ⟨#[], by rw [q]; simp⟩⟩
theorem Un.refl : Un fs ex H H h h := Un.kept fun _ _ q => q
theorem Un.laid (k : ∀ b u, h.get? b = some u → h'.get? b = some u) (hp : h.objs.size ≤ a) (hn : H a = none) : Un fs ex H (upd H a o) h h' where
  keep := fun b u q _ _ _ => k b u q
  slot := fun b u q _ _ _ => ⟨u.slots, k b u q⟩
  free := fun b u q n _ => by rw [upd_ne (Nat.ne_of_lt (Nat.lt_of_lt_of_le (Heap.lt_size q) hp))]; exact n
  there := fun b u q _ => ⟨u, k b u q⟩
  tups := fun b xs q => by rw [upd_ne (ne_of_none q hn)]; exact q
  frzs := fun b u xs q => by rw [upd_ne (ne_of_none q hn)]; exact q
  tbls := fun b ps q => ⟨#[], by rw [upd_ne (ne_of_none q hn), q]; simp⟩
theorem Un.write (mu : Mut (H x)) (he : e = x ∨ H e = some (.own x)) (k : ∀ b u, b ≠ e → h.get? b = some u → h'.get? b = some u) (heo : ∃ u, h'.get? e = some u) : Un fs ex H (upd H x o) h h' := by
  have hx : ∀ b, H b = none → b ≠ x := fun b n z => by subst z; rw [n] at mu; exact mu
  have hb : ∀ b, H b = none → b ≠ e := fun b n z => by
    subst z
    rcases he with r | r
    · exact hx b n r
    · rw [n] at r; cases r
  have hm : ∀ b u, H b = some u → ¬ Mut (some u) → b ≠ x := fun b u q nm z => by subst z; rw [q] at mu; exact nm mu
  refine ⟨fun b u q n _ _ => k b u (hb b n) q, fun b u q n _ _ => ⟨u.slots, k b u (hb b n) q⟩, fun b u q n _ => by rw [upd_ne (hx b n)]; exact n, fun b u q _ => ?_,
    fun b xs q => by rw [upd_ne (hm b _ q fun z => z)]; exact q, fun b u xs q => by rw [upd_ne (hm b _ q fun z => z)]; exact q, fun b ps q => ⟨#[], by rw [upd_ne (hm b _ q fun z => z), q]; simp⟩⟩
  by_cases hbe : b = e
  · subst hbe; exact heo
  · exact ⟨u, k b u hbe q⟩
end

/-! ### the heap without what is tracked -/
def trk (h : Heap) (H : Hp) : List Addr := (List.range h.objs.size).filter fun a => (H a).isSome
def hidT (h : Heap) (H : Hp) : Heap := PySem.W.hideAll h (trk h H)
theorem hidT_size (h : Heap) (H : Hp) : (hidT h H).objs.size = h.objs.size := PySem.W.hideAll_size _ _
theorem hidT_get {h : Heap} {H : Hp} {b : Addr} {o : Obj} (e : h.get? b = some o) (n : H b = none) : (hidT h H).get? b = some o :=
  PySem.W.hideAll_get _ e fun hm => by
    have q : (H b).isSome = true := (List.mem_filter.mp hm).2
    rw [n] at q; simp at q
theorem of_hidT {h : Heap} {H : Hp} {b : Addr} {o : Obj} (e : (hidT h H).get? b = some o) : h.get? b = some o ∧ H b = none := by
  have e' : h.get? b = some o := PySem.W.of_hideAll (trk h H) e
  refine ⟨e', ?_⟩
  cases q : H b with
  | none => rfl
  | some x =>
    have hm : b ∈ trk h H := List.mem_filter.mpr ⟨List.mem_range.mpr (Heap.lt_size e'), by simp [q]⟩
    have z : (hidT h H).get? b = none := PySem.W.hideAll_none (trk h H) hm
    rw [z] at e; cases e

/-! ### OpenK's ledger, filled with every new object but one -/
end L2

namespace L2
open PySem PySem.Spec PyProof.Rows

/-- the module's facts, over the base: the heap at the law's entry without what is tracked there -/
structure Mod (K : PySem.W.Frag) (mg : Str → Option Value) (base : Heap) : Prop where
  kin : K.In base
  glob : base.Ns mainGlobals mg
  blt : ∃ mb, base.Ns builtinsNs mb ∧ ∀ x : Str, x ≠ "__name__" → mb x = bootBuiltins x
  nolimit : base.NoLimit

/-- the context: a def's body (or a comprehension's block) running. base: fixed through the whole law; s₀, H₀: the entry; outer: the frames whose slots others may change (a def's callers); stack: all frames that run;
   ex: iterators that were made ahead of the entry and are walked here (a comprehension's); fn: the names whose cells were made at the entry (a def: all; a comprehension's block: its own); calm: not within an except suite; pn: pins that every state bears; xe: what is wanted of an exception that leaves the code -/
structure Cx where
  prog : Program
  w : World
  K : PySem.W.Frag
  mg : Str → Option Value
  base : Heap
  A : Around
  N : List Str
  s₀ : Shared
  H₀ : Hp
  env : Env
  outer : List Env
  stack : List Env
  ex : List Addr
  fn : Str → Bool
  calm : Bool
  pn : List (Addr × Obj)
  xe : Value → Shared → Prop
/-- the callers' frames -/
def frs (l : List Env) : List Addr := l.filterMap (·.frame)
abbrev Cx.fs (X : Cx) : List Addr := frs X.outer

def Vis (sc : Scope) (x : Str) : Prop := sc.names.lookup x = some .local ∨ sc.names.lookup x = some .cell ∨ sc.names.lookup x = some .free
def Loc (sc : Scope) (x : Str) : Prop := sc.names.lookup x = some .local ∨ sc.names.lookup x = some .cell
def Look (env : Env) (h : Heap) (m : Str → Option Value) (x : Str) (u : Value) : Prop :=
  (env.kindOf x = some .local ∧ m x = some u) ∨ ((env.kindOf x = some .cell ∨ env.kindOf x = some .free) ∧ ∃ c, env.cells.lookup x = some c ∧ h.IsCell c (some u))

structure Cx.Ok (X : Cx) : Prop where
  mod : Mod X.K X.mg X.base
  kind : X.env.scope.kind = .function
  glob : X.env.globals = mainGlobals
  blt : X.env.builtins = builtinsNs
  above : X.s₀.heap.objs.size ≤ X.env.locals
  inj : ∀ x y c, X.env.cells.lookup x = some c → X.env.cells.lookup y = some c → x = y
  has : ∀ x, (X.env.kindOf x = some .cell ∨ X.env.kindOf x = some .free) → ∃ c, X.env.cells.lookup x = some c
  cab : ∀ x c, X.fn x = true → X.env.cells.lookup x = some c → X.s₀.heap.objs.size ≤ c
  hd : X.calm = true → X.A.handled = none
  frames : X.A.frames = some X.stack
  stk : X.stack = X.outer ∨ (X.stack = X.env :: X.outer ∧ X.env.frame = some X.env.locals)
  exf : ∀ b ∈ X.ex, b ≠ X.env.locals ∧ ∀ x c, X.env.cells.lookup x = some c → c ≠ b
  bs : ∀ b o, X.base.get? b = some o → X.s₀.heap.get? b = some o ∧ X.H₀ b = none
  bsz : X.base.objs.size ≤ X.s₀.heap.objs.size
  noex : ∀ b o, X.base.get? b = some o → b ∉ X.ex
  exfs : ∀ b ∈ X.ex, b ∉ X.fs
  funs : X.s₀.heap.FunFrames X.base X.outer
  frf : ∀ b ∈ X.fs, X.H₀ b = none

structure Inv (X : Cx) (pins : List (Addr × Obj)) (σ : List (Option V)) (H : Hp) (s : Shared) : Prop where
  ok : X.Ok
  os : s.os = X.s₀.os
  bare : AllBare s.gens
  base : Un X.fs X.ex X.H₀ H X.s₀.heap s.heap
  loc : ∃ m, s.heap.Ns X.env.locals m ∧ ∀ (i : Nat) (x : Str) (v : V), X.N[i]? = some x → σ[i]? = some (some v) → Vis X.env.scope x → ∃ u, RelV v u ∧ Look X.env s.heap m x u
  cell : ∀ x c, X.env.cells.lookup x = some c → ∃ v, s.heap.IsCell c v
  free : H X.env.locals = none
  freeC : ∀ x c, X.env.cells.lookup x = some c → H c = none
  pin : ∀ p ∈ X.pn ++ pins, s.heap.get? p.1 = some p.2 ∧ H p.1 = none ∧ p.1 ≠ X.env.locals ∧ p.1 ∉ X.fs ∧ ∀ v, p.2.data ≠ .cell v
  hok : HOk X.prog X.w H s.heap
  len : σ.length = X.N.length

section
variable {X : Cx} {pins : List (Addr × Obj)} {σ : List (Option V)} {H H' : Hp} {s : Shared} {h' : Heap}

theorem Cx.Ok.nofr (ok : X.Ok) {b : Addr} {o : Obj} (e : X.base.get? b = some o) : b ∉ X.fs := fun hb => by
  have := (ok.funs.mem hb).1
  rw [e] at this; cases this
theorem Inv.bs (I : Inv X pins σ H s) : ∀ b o, X.base.get? b = some o → s.heap.get? b = some o ∧ H b = none := fun b o e =>
  ⟨I.base.keep b o (I.ok.bs b o e).1 (I.ok.bs b o e).2 (I.ok.nofr e) (I.ok.noex b o e), I.base.free b o (I.ok.bs b o e).1 (I.ok.bs b o e).2 (I.ok.noex b o e)⟩
theorem Inv.bk (I : Inv X pins σ H s) : ∀ b o, X.base.get? b = some o → s.heap.get? b = some o := fun b o e => (I.bs b o e).1
theorem Inv.mod (I : Inv X pins σ H s) : Mod X.K X.mg X.base := I.ok.mod
theorem Inv.kIn (I : Inv X pins σ H s) : X.K.In s.heap := I.ok.mod.kin.keeps I.bk
theorem Inv.lt (I : Inv X pins σ H s) : X.env.locals < s.heap.objs.size := let ⟨_, hn, _⟩ := I.loc; hn.lt
theorem Inv.sz (I : Inv X pins σ H s) : X.s₀.heap.objs.size ≤ s.heap.objs.size := Nat.le_trans I.ok.above (Nat.le_of_lt I.lt)
theorem Inv.nofs (I : Inv X pins σ H s) {a : Addr} (h : s.heap.objs.size ≤ a) : a ∉ X.fs := fun hb => by
  obtain ⟨_, o, ho, _⟩ := I.ok.funs.mem hb
  exact absurd (Nat.lt_of_lt_of_le (Heap.lt_size ho) (Nat.le_trans I.sz h)) (Nat.lt_irrefl _)
theorem Inv.cne (I : Inv X pins σ H s) : ∀ x c, X.env.cells.lookup x = some c → c ≠ X.env.locals := fun x c e z => by
  obtain ⟨v, o, ho, hd⟩ := I.cell x c e
  obtain ⟨m, ⟨o', es, ep, ho', hd', _⟩, _⟩ := I.loc
  rw [z, ho'] at ho; cases ho; rw [hd'] at hd; cases hd
theorem Inv.funs (I : Inv X pins σ H s) : s.heap.FunFrames X.base X.outer := by
  have all : ∀ (l : List Env), (∀ b ∈ frs l, b ∈ X.fs) → X.s₀.heap.FunFrames X.base l → s.heap.FunFrames X.base l := by
    intro l
    induction l with
    | nil => intro _ _; trivial
    | cons env r ih =>
      intro hs hl
      obtain ⟨hk, ⟨L, o, hf, hn, ho, hd⟩, hr⟩ := hl
      have hL : L ∈ X.fs := hs L (by unfold frs; rw [List.filterMap_cons, hf]; exact List.mem_cons_self)
      obtain ⟨sl, e⟩ := I.base.slot L o ho (I.ok.frf L hL) hL fun z => I.ok.exfs L z hL
      exact ⟨hk, ⟨L, _, hf, hn, e, hd⟩, ih (fun b hb => hs b (by unfold frs; rw [List.filterMap_cons, hf]; exact List.mem_cons_of_mem _ hb)) hr⟩
  exact all X.outer (fun _ hb => hb) I.ok.funs

/-- the frames that run, for a call -/
theorem Inv.stack (I : Inv X pins σ H s) : s.heap.FunFrames X.base X.stack := by
  rcases I.ok.stk with e | ⟨e, hf⟩
  · rw [e]; exact I.funs
  · rw [e]
    obtain ⟨m, hn, _⟩ := I.loc
    refine .cons (by rw [I.ok.kind]; decide) hf hn ?_ I.funs
    exact Heap.get?_none_of_le (Nat.le_trans I.ok.bsz I.ok.above)
theorem Inv.stkSub (I : Inv X pins σ H s) : ∀ b ∈ frs X.stack, b ∈ X.env.locals :: X.fs := fun b hb => by
  rcases I.ok.stk with e | ⟨e, hf⟩
  · rw [e] at hb; exact List.mem_cons_of_mem _ hb
  · rw [e] at hb
    unfold frs at hb
    rw [List.filterMap_cons, hf] at hb
    exact hb
theorem Inv.stkFree (I : Inv X pins σ H s) : ∀ b ∈ frs X.stack, H b = none := fun b hb => by
  rcases List.mem_cons.mp (I.stkSub b hb) with e | hb
  · rw [e]; exact I.free
  · obtain ⟨_, o, ho, _⟩ := I.ok.funs.mem hb
    exact I.base.free b o ho (I.ok.frf b hb) fun z => I.ok.exfs b z hb

/-- THE STEP: the untracked objects but the frame and the records at ch are kept (the callers' frames up to slots), the frame's map is kept, the new abstract heap is held -/
theorem Inv.step {g' : Array GenState} {t' : Nat} {d' : Drawn} {ch : List Addr} (I : Inv X pins σ H s)
    (hch : ∀ b ∈ ch, (b ∈ X.ex ∨ X.s₀.heap.objs.size ≤ b) ∧ b ≠ X.env.locals ∧ (∀ x c, X.env.cells.lookup x = some c → c ≠ b) ∧ ∀ p ∈ X.pn ++ pins, p.1 ≠ b)
    (keep : ∀ b o, b ≠ X.env.locals → b ∉ X.fs → b ∉ ch → s.heap.get? b = some o → H b = none → h'.get? b = some o)
    (slot : ∀ b o, b ≠ X.env.locals → b ∈ X.fs → b ∉ ch → s.heap.get? b = some o → H b = none → ∃ sl, h'.get? b = some { o with slots := sl }) (free : ∀ b o, b ∉ ch → s.heap.get? b = some o → H b = none → H' b = none)
    (there : ∀ b o, b ∉ ch → s.heap.get? b = some o → ∃ o', h'.get? b = some o')
    (tups : ∀ b xs, H b = some (.tup xs) → H' b = some (.tup xs)) (frzs : ∀ b o u, H b = some (.frz o u) → H' b = some (.frz o u)) (tbls : ∀ b ps, H b = some (.tbl ps) → ∃ more, H' b = some (.tbl (ps ++ more)))
    (ns : ∀ m, s.heap.Ns X.env.locals m → h'.Ns X.env.locals m) (hok : HOk X.prog X.w H' h') (hg : AllBare g') :
    Inv X pins σ H' { s with heap := h', gens := g', drawn := d', toks := t' } := by
  have neL : ∀ b o, X.s₀.heap.get? b = some o → b ≠ X.env.locals := fun b o e => Nat.ne_of_lt (Nat.lt_of_lt_of_le (Heap.lt_size e) I.ok.above)
  have neC : ∀ b o, X.s₀.heap.get? b = some o → b ∉ X.ex → b ∉ ch := fun b o e hx hb => by
    rcases (hch b hb).1 with z | z
    · exact hx z
    · exact absurd (Nat.lt_of_lt_of_le (Heap.lt_size e) z) (Nat.lt_irrefl _)
  have cellK : ∀ x c, X.env.cells.lookup x = some c → ∀ v, s.heap.IsCell c v → h'.IsCell c v := fun x c e v ⟨o, ho, hd⟩ => by
    have nch : c ∉ ch := fun z => (hch c z).2.2.1 x c e rfl
    by_cases hc : c ∈ X.fs
    · obtain ⟨sl, q⟩ := slot c o (I.cne x c e) hc nch ho (I.freeC x c e)
      exact ⟨_, q, hd⟩
    · exact ⟨o, keep c o (I.cne x c e) hc nch ho (I.freeC x c e), hd⟩
  refine ⟨I.ok, I.os, hg, ⟨fun b o e n hb hx => ?_, fun b o e n hb hx => ?_, fun b o e n hx => ?_, fun b o e hx => ?_, fun b xs e => tups b xs (I.base.tups b xs e), fun b o xs e => frzs b o xs (I.base.frzs b o xs e), fun b ps e => ?_⟩, ?_, fun x c e => ?_, ?_, fun x c e => ?_, fun p hp => ?_, hok, I.len⟩
  · exact keep b o (neL b o e) hb (neC b o e hx) (I.base.keep b o e n hb hx) (I.base.free b o e n hx)
  · obtain ⟨sl, e1⟩ := I.base.slot b o e n hb hx
    obtain ⟨sl', e2⟩ := slot b _ (neL b o e) hb (neC b o e hx) e1 (I.base.free b o e n hx)
    exact ⟨sl', e2⟩
  · obtain ⟨o', e1⟩ := I.base.there b o e hx
    exact free b o' (neC b o e hx) e1 (I.base.free b o e n hx)
  · obtain ⟨o', e1⟩ := I.base.there b o e hx
    exact there b o' (neC b o e hx) e1
  · obtain ⟨m1, e1⟩ := I.base.tbls b ps e
    obtain ⟨m2, e2⟩ := tbls b _ e1
    exact ⟨m1 ++ m2, by rw [e2, Array.append_assoc]⟩
  · obtain ⟨m, hn, hl⟩ := I.loc
    refine ⟨m, ns m hn, fun i x v e1 e2 e3 => ?_⟩
    obtain ⟨u, r, l⟩ := hl i x v e1 e2 e3
    refine ⟨u, r, ?_⟩
    rcases l with l | ⟨k, c, e, z⟩
    · exact .inl l
    · exact .inr ⟨k, c, e, cellK x c e _ z⟩
  · obtain ⟨v, z⟩ := I.cell x c e
    exact ⟨v, cellK x c e v z⟩
  · obtain ⟨m, ⟨o, _, _, ho, _⟩, _⟩ := I.loc
    exact free _ o (fun z => (hch _ z).2.1 rfl) ho I.free
  · obtain ⟨v, o, ho, hd⟩ := I.cell x c e
    exact free c o (fun z => (hch c z).2.2.1 x c e rfl) ho (I.freeC x c e)
  · obtain ⟨e, n, ne, nf, d⟩ := I.pin p hp
    have nch : p.1 ∉ ch := fun z => (hch p.1 z).2.2.2 p hp rfl
    exact ⟨keep p.1 p.2 ne nf nch e n, free p.1 p.2 nch e n, ne, nf, d⟩
/-- .. where the frame's own object is kept too -/
theorem Inv.un {t' : Nat} (I : Inv X pins σ H s) (u : Un X.fs [] H H' s.heap h') (hok : HOk X.prog X.w H' h') : Inv X pins σ H' { s with heap := h', toks := t' } := by
  obtain ⟨m, ⟨o, es, ep, ho, r⟩, _⟩ := id I.loc
  obtain ⟨sl, hL⟩ := u.any ho I.free (by simp)
  exact I.step (g' := s.gens) (d' := s.drawn) (ch := []) (fun _ z => nomatch z) (fun b o _ hb _ e n => u.keep b o e n hb (by simp)) (fun b o _ hb _ e n => u.slot b o e n hb (by simp)) (fun b o _ e n => u.free b o e n (by simp)) (fun b o _ e => u.there b o e (by simp)) u.tups u.frzs u.tbls (fun m' hm => by
    obtain ⟨o', es', ep', ho', r'⟩ := hm
    rw [ho] at ho'; cases ho'
    exact ⟨_, es', ep', hL, r'⟩) hok I.bare
/-- behind a call (or a comprehension's block): the slots of this frame may have changed too, the records at ch may have turned -/
theorem Inv.call {g' : Array GenState} {t' : Nat} {d' : Drawn} {ch : List Addr} (I : Inv X pins σ H s) (u : Un (frs X.stack) ch H H' s.heap h') (hok : HOk X.prog X.w H' h') (hg : AllBare g')
    (hch : ∀ b ∈ ch, (b ∈ X.ex ∨ X.s₀.heap.objs.size ≤ b) ∧ b ≠ X.env.locals ∧ (∀ x c, X.env.cells.lookup x = some c → c ≠ b) ∧ ∀ p ∈ X.pn ++ pins, p.1 ≠ b) :
    Inv X pins σ H' { s with heap := h', gens := g', drawn := d', toks := t' } := by
  obtain ⟨m, ⟨o, es, ep, ho, r⟩, _⟩ := id I.loc
  obtain ⟨sl, hL⟩ := u.any ho I.free fun z => (hch _ z).2.1 rfl
  exact I.step (ch := ch) hch (fun b o hL hb hc e n => u.keep b o e n (fun z => (List.mem_cons.mp (I.stkSub b z)).elim hL hb) hc) (fun b o _ _ hc e n => u.any e n hc) (fun b o hc e n => u.free b o e n hc) (fun b o hc e => u.there b o e hc) u.tups u.frzs u.tbls (fun m' hm => by
    obtain ⟨o', es', ep', ho', r'⟩ := hm
    rw [ho] at ho'; cases ho'
    exact ⟨_, es', ep', hL, r'⟩) hok hg
/-- an untracked record of ours (an iterator) has turned -/
theorem Inv.turned {t' : Nat} {it : Addr} (I : Inv X pins σ H s) (k : ∀ b o, b ≠ it → s.heap.get? b = some o → h'.get? b = some o) (hn : H it = none) (hL : it ≠ X.env.locals)
    (h1 : it ∈ X.ex ∨ X.s₀.heap.objs.size ≤ it) (h2 : ∀ x c, X.env.cells.lookup x = some c → c ≠ it) (h3 : ∀ p ∈ X.pn ++ pins, p.1 ≠ it) : Inv X pins σ H { s with heap := h', toks := t' } := by
  have nit : ∀ b u, H b = some u → b ≠ it := fun b u e z => by rw [z, hn] at e; cases e
  refine I.step (g' := s.gens) (d' := s.drawn) (ch := [it]) (fun b hb => ?_) (fun b o _ _ hc e _ => k b o (fun z => hc (by simp [z])) e) (fun b o _ _ hc e _ => ⟨o.slots, k b o (fun z => hc (by simp [z])) e⟩) (fun _ _ _ _ n => n)
    (fun b o hc e => ⟨o, k b o (fun z => hc (by simp [z])) e⟩) (fun _ _ e => e) (fun _ _ _ e => e) (fun b ps e => ⟨#[], by rw [e]; simp⟩) (fun m hm => ?_) (fun b u e => ?_) I.bare
  · have e : b = it := by simpa using hb
    subst e
    exact ⟨h1, hL, h2, h3⟩
  · obtain ⟨o, es, ep, ho, r⟩ := hm
    exact ⟨o, es, ep, k _ o (Ne.symm hL) ho, r⟩
  · refine (I.hok b u e).stay (fun c v hc q => k c v ?_ q) (fun _ q => q) fun _ _ q => q
    rcases hc with z | z
    · rw [z]; exact nit b u e
    · exact nit c _ z
theorem Inv.tok (I : Inv X pins σ H s) (t : Nat) : Inv X pins σ H { s with toks := t } := I.un (h' := s.heap) (t' := t) Un.refl I.hok
/-- all objects kept -/
theorem Inv.kept {t' : Nat} (I : Inv X pins σ H s) (k : ∀ b u, s.heap.get? b = some u → h'.get? b = some u) : Inv X pins σ H { s with heap := h', toks := t' } := I.un (Un.kept k) (I.hok.kept k)
/-- a new object laid and tracked -/
theorem Inv.laid {a : Addr} {o : HO} {t' : Nat} (I : Inv X pins σ H s) (k : ∀ b u, s.heap.get? b = some u → h'.get? b = some u) (hp : s.heap.objs.size ≤ a) (new : ObjOk X.prog X.w (upd H a o) h' a o) :
    Inv X pins σ (upd H a o) { s with heap := h', toks := t' } := I.un (Un.laid k hp (I.hok.fresh hp)) (I.hok.laid k hp new)
/-- an object written -/
theorem Inv.write {x e : Addr} {o : HO} {t' : Nat} (I : Inv X pins σ H s) (mu : Mut (H x)) (he : e = x ∨ H e = some (.own x)) (k : ∀ b u, b ≠ e → s.heap.get? b = some u → h'.get? b = some u) (heo : ∃ u, h'.get? e = some u)
    (new : ObjOk X.prog X.w (upd H x o) h' x o) : Inv X pins σ (upd H x o) { s with heap := h', toks := t' } := I.un (Un.write mu he k heo) (I.hok.write mu he k heo new)
theorem Inv.pins_of {pins' : List (Addr × Obj)} (I : Inv X pins σ H s) (h : ∀ p ∈ pins', s.heap.get? p.1 = some p.2 ∧ H p.1 = none ∧ p.1 ≠ X.env.locals ∧ p.1 ∉ X.fs ∧ ∀ v, p.2.data ≠ .cell v) : Inv X pins' σ H s :=
  ⟨I.ok, I.os, I.bare, I.base, I.loc, I.cell, I.free, I.freeC, fun p hp => (List.mem_append.mp hp).elim (fun z => I.pin p (List.mem_append_left _ z)) (h p), I.hok, I.len⟩

theorem nodup_ix {N : List Str} (hN : N.Nodup) {i j : Nat} {x : Str} (a : N[i]? = some x) (b : N[j]? = some x) : i = j := by
  obtain ⟨h1, e1⟩ := List.getElem?_eq_some_iff.mp a
  obtain ⟨h2, e2⟩ := List.getElem?_eq_some_iff.mp b
  exact (List.getElem_inj hN).mp (e1.trans e2.symm)

/-- a name is stored; what changed -/
theorem store_ok2 {M : Model} {A : Around} {E : Value → Shared → Prop} {i : Nat} {x : Str} {v : V} {u : Value} {Q : Unit → Shared → Prop} (I : Inv X pins σ H s) (hN : X.N.Nodup) (hi : X.N[i]? = some x) (hx : Loc X.env.scope x) (r : RelV v u)
    (h : ∀ s', Inv X pins (σ.set i (some v)) H s' → (∃ a, Heap.SameBut a s.heap s'.heap ∧ (a = X.env.locals ∨ X.env.cells.lookup x = some a)) → Q () s') (hf : X.fn x = true ∨ X.env.scope.names.lookup x = some .local := by first | exact .inl rfl | exact .inr rfl | assumption) : wpAny M A (storeName X.env x u) Q E s := by
  obtain ⟨m, hn, hl⟩ := id I.loc
  have hcls : (X.env.scope.kind == .class || (X.env.scope.kind == .module && X.env.locals != X.env.globals)) = false := by rw [I.ok.kind]; rfl
  have hiσ : i < σ.length := by rw [I.len]; exact (List.getElem?_eq_some_iff.mp hi).1
  have cne := I.cne
  have tracked : ∀ {a : Addr} {h' : Heap}, (∃ o, s.heap.get? a = some o ∧ H a = none) → Heap.SameBut a s.heap h' → HOk X.prog X.w H h' := fun {a h'} ha hs b ob e => by
    obtain ⟨_, _, hfree⟩ := ha
    refine (I.hok b ob e).stay (fun c w' hc q => (hs.2 c ?_).trans q) (fun _ q => q) fun _ _ q => q
    rintro rfl
    rcases hc with rfl | hc
    · rw [hfree] at e; cases e
    · rw [hfree] at hc; cases hc
  rcases hx with hk | hk
  · refine wpAny_storeName_local hk hn (fun h' hn' hs => ?_) hcls
    obtain ⟨oL, _, _, hoL, _⟩ := id hn
    refine h _ ⟨I.ok, I.os, I.bare, ⟨fun b o e n hb hx => ?_, fun b o e n hb hx => ?_, I.base.free, fun b o e hx => ?_, I.base.tups, I.base.frzs, I.base.tbls⟩, ⟨_, hn', fun j y v' e1 e2 e3 => ?_⟩, fun y c e => ?_, I.free, I.freeC, fun p hp => ?_, tracked ⟨oL, hoL, I.free⟩ hs, by simpa using I.len⟩ ⟨_, hs, .inl rfl⟩
    · exact (hs.2 b (Nat.ne_of_lt (Nat.lt_of_lt_of_le (Heap.lt_size e) I.ok.above))).trans (I.base.keep b o e n hb hx)
    · obtain ⟨sl, e1⟩ := I.base.slot b o e n hb hx
      exact ⟨sl, (hs.2 b (Nat.ne_of_lt (Nat.lt_of_lt_of_le (Heap.lt_size e) I.ok.above))).trans e1⟩
    · obtain ⟨o', e1⟩ := I.base.there b o e hx
      exact ⟨o', (hs.2 b (Nat.ne_of_lt (Nat.lt_of_lt_of_le (Heap.lt_size e) I.ok.above))).trans e1⟩
    · by_cases hj : j = i
      · subst hj
        rw [hi] at e1; cases e1
        rw [List.getElem?_set_self hiσ] at e2
        cases e2
        exact ⟨u, r, .inl ⟨hk, by simp⟩⟩
      · rw [List.getElem?_set_ne (Ne.symm hj)] at e2
        obtain ⟨u', r', q⟩ := hl j y v' e1 e2 e3
        refine ⟨u', r', ?_⟩
        rcases q with ⟨k, e⟩ | ⟨k, c, e, z⟩
        · refine .inl ⟨k, ?_⟩
          have : y ≠ x := fun e => hj (nodup_ix hN e1 (e ▸ hi))
          simp [this, e]
        · exact .inr ⟨k, c, e, z.sameBut hs (cne y c e)⟩
    · obtain ⟨w', z⟩ := I.cell y c e
      exact ⟨w', z.sameBut hs (cne y c e)⟩
    · obtain ⟨e, n, ne, nf, d⟩ := I.pin p hp
      exact ⟨(hs.2 p.1 ne).trans e, n, ne, nf, d⟩
  · have hfn : X.fn x = true := by
      rcases hf with z | z
      · exact z
      · rw [z] at hk; cases hk
    obtain ⟨c, hc⟩ := I.ok.has x (.inl hk)
    obtain ⟨w', z⟩ := I.cell x c hc
    refine wpAny_storeName_cell I.ok.kind hk hc z (fun h' hc' hs => ?_)
    obtain ⟨oc, hoc, hocd⟩ := id z
    refine h { s with heap := h' } ⟨I.ok, I.os, I.bare, ⟨fun b o e n hb hx => ?_, fun b o e n hb hx => ?_, I.base.free, fun b o e hx => ?_, I.base.tups, I.base.frzs, I.base.tbls⟩, ⟨m, hn.sameBut hs (Ne.symm (cne x c hc)), fun j y v' e1 e2 e3 => ?_⟩, fun y c' e => ?_, I.free, I.freeC, fun p hp => ?_, tracked ⟨oc, hoc, I.freeC x c hc⟩ hs, by simpa using I.len⟩ ⟨c, hs, .inr hc⟩
    · exact (hs.2 b (Nat.ne_of_lt (Nat.lt_of_lt_of_le (Heap.lt_size e) (I.ok.cab x c hfn hc)))).trans (I.base.keep b o e n hb hx)
    · obtain ⟨sl, e1⟩ := I.base.slot b o e n hb hx
      exact ⟨sl, (hs.2 b (Nat.ne_of_lt (Nat.lt_of_lt_of_le (Heap.lt_size e) (I.ok.cab x c hfn hc)))).trans e1⟩
    · obtain ⟨o', e1⟩ := I.base.there b o e hx
      exact ⟨o', (hs.2 b (Nat.ne_of_lt (Nat.lt_of_lt_of_le (Heap.lt_size e) (I.ok.cab x c hfn hc)))).trans e1⟩
    · by_cases hj : j = i
      · subst hj
        rw [hi] at e1; cases e1
        rw [List.getElem?_set_self hiσ] at e2
        cases e2
        exact ⟨u, r, .inr ⟨.inl hk, c, hc, hc'⟩⟩
      · rw [List.getElem?_set_ne (Ne.symm hj)] at e2
        obtain ⟨u', r', q⟩ := hl j y v' e1 e2 e3
        refine ⟨u', r', ?_⟩
        rcases q with q | ⟨k, c', e, z'⟩
        · exact .inl q
        · refine .inr ⟨k, c', e, z'.sameBut hs ?_⟩
          rintro rfl
          exact hj (nodup_ix hN e1 (I.ok.inj _ _ _ e hc ▸ hi))
    · by_cases hcc : c' = c
      · subst hcc; exact ⟨_, hc'⟩
      · obtain ⟨w2, z2⟩ := I.cell y c' e
        exact ⟨w2, z2.sameBut hs hcc⟩
    · obtain ⟨e, n, ne, nf, d⟩ := I.pin p hp
      refine ⟨(hs.2 p.1 ?_).trans e, n, ne, nf, d⟩
      intro q
      rw [q, hoc] at e
      have q' : oc = p.2 := Option.some.inj e
      exact d w' (by rw [← q']; exact hocd)
theorem store_ok {M : Model} {A : Around} {E : Value → Shared → Prop} {i : Nat} {x : Str} {v : V} {u : Value} {Q : Unit → Shared → Prop} (I : Inv X pins σ H s) (hN : X.N.Nodup) (hi : X.N[i]? = some x) (hx : Loc X.env.scope x) (r : RelV v u)
    (h : ∀ s', Inv X pins (σ.set i (some v)) H s' → Q () s') (hf : X.fn x = true ∨ X.env.scope.names.lookup x = some .local := by first | exact .inl rfl | exact .inr rfl | assumption) : wpAny M A (storeName X.env x u) Q E s :=
  store_ok2 I hN hi hx r (fun s' I' _ => h s' I') hf
/-- behind a call or a block, the state as it is -/
theorem Inv.call' {s' : Shared} {ch : List Addr} (I : Inv X pins σ H s) (ho : s'.os = s.os) (u : Un (frs X.stack) ch H H' s.heap s'.heap) (hok : HOk X.prog X.w H' s'.heap) (hg : AllBare s'.gens)
    (hch : ∀ b ∈ ch, (b ∈ X.ex ∨ X.s₀.heap.objs.size ≤ b) ∧ b ≠ X.env.locals ∧ (∀ x c, X.env.cells.lookup x = some c → c ≠ b) ∧ ∀ p ∈ X.pn ++ pins, p.1 ≠ b) : Inv X pins σ H' s' := by
  obtain ⟨h', g', d', t', o'⟩ := s'
  have e : o' = s.os := ho
  subst e
  exact I.call (g' := g') (t' := t') (d' := d') u hok hg hch
end

/-! ### the judgements -/
/-- an exception: its class, its own dict's address (where it has one), the abstract heap behind it -/
abbrev XK := Value → Option Addr → Hp → Prop
abbrev St := List (Option V)
abbrev VK := V → Hp → Prop
/-- an expression's reading; a test's; an argument list's -/
abbrev TE := St → Hp → VK → Prop
abbrev TT := St → Hp → (Bool → Hp → Prop) → Prop
abbrev TA := St → Hp → (List V → Hp → Prop) → Prop
/-- what is wanted behind a statement -/
structure Ends where
  nx : St → Hp → Prop
  rt : VK
  bk : St → Hp → Prop := fun _ _ => False
  ct : St → Hp → Prop := fun _ _ => False
abbrev TS := Ends → St → Hp → Prop

def EP (X : Cx) (pins : List (Addr × Obj)) (σ : St) (Q : VK) (u : Value) (s' : Shared) : Prop := ∃ v H', Inv X pins σ H' s' ∧ RelV v u ∧ Q v H'
def TP (X : Cx) (pins : List (Addr × Obj)) (σ : St) (Q : Bool → Hp → Prop) (b : Bool) (s' : Shared) : Prop := ∃ H', Inv X pins σ H' s' ∧ Q b H'
def AP (X : Cx) (pins : List (Addr × Obj)) (σ : St) (Q : List V → Hp → Prop) (us : List Value) (s' : Shared) : Prop := ∃ vs H', Inv X pins σ H' s' ∧ Vals vs us ∧ Q vs H'
def SP (X : Cx) (pins : List (Addr × Obj)) (D : Ends) (f : Flow) (s' : Shared) : Prop :=
  match f with
  | .next => ∃ σ' H', Inv X pins σ' H' s' ∧ D.nx σ' H'
  | .brk => ∃ σ' H', Inv X pins σ' H' s' ∧ D.bk σ' H'
  | .cont => ∃ σ' H', Inv X pins σ' H' s' ∧ D.ct σ' H'
  | .ret u => ∃ v σ' H', Inv X pins σ' H' s' ∧ RelV v u ∧ D.rt v H'

def PE (X : Cx) (e : Expr) (t : TE) : Prop :=
  ∀ (pins : List (Addr × Obj)) (s : Shared) (σ : St) (H : Hp) (Q : VK), Inv X pins σ H s → t σ H Q → wpAny (model X.prog X.w) X.A (eval e X.env) (EP X pins σ Q) X.xe s
def PT (X : Cx) (e : Expr) (t : TT) : Prop :=
  ∀ (pins : List (Addr × Obj)) (s : Shared) (σ : St) (H : Hp) (Q : Bool → Hp → Prop), Inv X pins σ H s → t σ H Q → wpAny (model X.prog X.w) X.A (isTrue e X.env (eval e X.env)) (TP X pins σ Q) X.xe s
/-- a test whatever its 'whole' is (and, or) -/
def PW (X : Cx) (e : Expr) (t : TT) : Prop :=
  ∀ (whole : Sem Value) (pins : List (Addr × Obj)) (s : Shared) (σ : St) (H : Hp) (Q : Bool → Hp → Prop), Inv X pins σ H s → t σ H Q → wpAny (model X.prog X.w) X.A (isTrue e X.env whole) (TP X pins σ Q) X.xe s
theorem PW.pt {X : Cx} {e : Expr} {t : TT} (h : PW X e t) : PT X e t := h _
/-- an argument list (no star), from the left -/
def PA (X : Cx) (es : List Expr) (t : TA) : Prop :=
  ∀ (pos : Pos) (pins : List (Addr × Obj)) (s : Shared) (σ : St) (H : Hp) (Q : List V → Hp → Prop), Inv X pins σ H s → t σ H Q → wpAny (model X.prog X.w) X.A (spliced (backTo pos (starEach es X.env))) (AP X pins σ Q) X.xe s
def PS (X : Cx) (st : Stmt) (t : TS) : Prop :=
  ∀ (pins : List (Addr × Obj)) (s : Shared) (σ : St) (H : Hp) (D : Ends), Inv X pins σ H s → t D σ H → wpAny (model X.prog X.w) X.A (exec st X.env) (SP X pins D) X.xe s
def PSs (X : Cx) (st : List Stmt) (t : TS) : Prop :=
  ∀ (pins : List (Addr × Obj)) (s : Shared) (σ : St) (H : Hp) (D : Ends), Inv X pins σ H s → t D σ H → wpAny (model X.prog X.w) X.A (execs st X.env) (SP X pins D) X.xe s
/-- weaken the end -/
theorem thn {α : Type} {t : Sem α} {Q Q' : α → Shared → Prop} {M : Model} {A : Around} {E : Value → Shared → Prop} {s : Shared} (h : wpAny M A t Q E s) (hQ : ∀ a s, Q a s → Q' a s) : wpAny M A t Q' E s := wpAny_mono h hQ fun _ _ x => x
end L2

namespace L2
open PySem PySem.Spec PyProof.Rows
section
variable {X : Cx}


/-! ### names and constants -/
def tVar (i : Nat) : TE := fun σ H Q => ∃ v, σ[i]? = some (some v) ∧ Q v H
def tC (v : V) : TE := fun _ H Q => Q v H
theorem pe_var {i : Nat} {x : Str} {pos : Pos} (hN : X.N[i]? = some x) (hv : Vis X.env.scope x) (hd : (x == ("__debug__" : Str)) = false := by decide) (hcd : (x == ("__classdict__" : Str)) = false := by decide) : PE X (.Name x pos) (tVar i) := by
  intro pins s σ H Q I h
  obtain ⟨v, e, h⟩ := h
  obtain ⟨m, hn, hl⟩ := I.loc
  obtain ⟨u, r, l⟩ := hl i x v hN e hv
  have fin : EP X pins σ Q u s := ⟨v, H, I, r, h⟩
  rcases l with ⟨hk, hm⟩ | ⟨hk, c, hc, hcell⟩
  · exact wpAny_Name (wpAny_loadName_local I.ok.kind hk hn hm fin) hd
  · rcases hk with hk | hk
    · exact wpAny_Name (wpAny_loadName_cell I.ok.kind hk hc hcell fin) hd
    · exact wpAny_Name (wpAny_loadName_free I.ok.kind hk hc hcell fin hcd) hd
theorem pe_int {i j pos} : PE X (.Constant (.int i) j pos) (tC (.int i)) := fun _ _ _ H _ I h => wpAny_Constant_int ⟨.int i, H, I.tok _, ⟨_, rfl⟩, h⟩
theorem pe_bl {b j pos} : PE X (.Constant (.bool b) j pos) (tC (.bl b)) := fun _ _ _ H _ I h => Constant_bool ⟨.bl b, H, I, rfl, h⟩
theorem pe_non {j pos} : PE X (.Constant .none j pos) (tC .non) := fun _ _ _ H _ I h => Constant_none ⟨.non, H, I, rfl, h⟩

/-- a global name of the def -/
def Gl (X : Cx) (x : Str) : Prop := X.env.kindOf x = some .globalImplicit
theorem ld_glob {E : Value → Shared → Prop} {pins : List (Addr × Obj)} {s : Shared} {σ : St} {H : Hp} {x : Str} {u : Value} {pos : Pos} {Q : Value → Shared → Prop} (I : Inv X pins σ H s) (hg : Gl X x) (hm : X.mg x = some u) (h : Q u s)
    (hd : (x == ("__debug__" : Str)) = false := by decide) : wpAny (model X.prog X.w) X.A (eval (.Name x pos) X.env) Q E s :=
  Calls.Name_function_global I.ok.kind hg (Calls.loadGlobal_global (by rw [I.ok.glob]; exact I.mod.glob.keeps I.bk) hm h) hd
theorem ld_blt {E : Value → Shared → Prop} {pins : List (Addr × Obj)} {s : Shared} {σ : St} {H : Hp} {x : Str} {u : Value} {pos : Pos} {Q : Value → Shared → Prop} (I : Inv X pins σ H s) (hg : Gl X x) (hm : X.mg x = none) (hv : bootBuiltins x = some u) (h : Q u s)
    (hn : x ≠ "__name__" := by decide) (hd : (x == ("__debug__" : Str)) = false := by decide) : wpAny (model X.prog X.w) X.A (eval (.Name x pos) X.env) Q E s := by
  obtain ⟨mb, h1, h2⟩ := I.mod.blt
  exact Calls.Name_function_global I.ok.kind hg (Calls.loadGlobal_builtin (by rw [I.ok.glob]; exact I.mod.glob.keeps I.bk) hm (by rw [I.ok.blt]; exact h1.keeps I.bk) ((h2 x hn).trans hv) h) hd
theorem pe_bltn {x : Str} {v : V} {u : Value} {pos : Pos} (hg : Gl X x) (hm : X.mg x = none) (hv : bootBuiltins x = some u) (r : RelV v u) (hn : x ≠ "__name__" := by decide) (hd : (x == ("__debug__" : Str)) = false := by decide) : PE X (.Name x pos) (tC v) :=
  fun _ _ _ H _ I h => ld_blt I hg hm hv ⟨v, H, I, r, h⟩ hn hd

/-! ### arithmetic -/
variable {a b : Expr} {ta tb : TE} {pos : Pos}

/-! ### comparisons -/
/-- a comparison as a value, as a test -/
def tB (t : TE) : TT := fun σ H Q => t σ H fun x H1 => ∃ c, x = .bl c ∧ Q c H1
/-- an expression whose value is a bool, as a test -/
theorem pt_val {e : Expr} {t : TE} (h : PE X e t) (he : ∀ whole, isTrue e X.env whole = (do let v ← whole; standAt e.pos; holding [v] (truthy v)) := by intro _; rfl) : PT X e (tB t) := by
  intro pins s σ H Q I hw
  refine isTrue_plain (thn (h pins s σ H _ I hw) fun v s1 ⟨x, H1, I1, r1, q1⟩ => ?_) (he _)
  obtain ⟨d, rfl, q⟩ := q1
  cases r1
  exact wpAny_truthy_bool ⟨H1, I1, q⟩

/-! ### and, or, not -/
variable {tA tB' : TT} {rest : List Expr}
def tOr (t u : TT) : TT := fun σ H Q => t σ H fun c H1 => if c = true then Q true H1 else u σ H1 Q
def tNot (t : TT) : TT := fun σ H Q => t σ H fun c H1 => Q (!c) H1
theorem pw_or1 (ha : PT X a tA) : PW X (.BoolOp .Or [a] pos) tA := by
  intro wh pins s σ H Q I h
  refine isTrue_or (thn (ha pins s σ H Q I h) fun c s1 e => ?_)
  cases c with
  | false => exact isTrue_or_nil e
  | true => exact e
theorem pw_or (ha : PT X a tA) (hb : PW X (.BoolOp .Or (b :: rest) pos) tB') : PW X (.BoolOp .Or (a :: b :: rest) pos) (tOr tA tB') := by
  intro wh pins s σ H Q I h
  refine isTrue_or (thn (ha pins s σ H _ I h) fun c s1 ⟨H1, I1, q1⟩ => ?_)
  cases c with
  | true => exact ⟨H1, I1, q1⟩
  | false => exact hb wh pins s1 σ H1 Q I1 q1
theorem pt_not (ha : PT X a tA) : PT X (.UnaryOp .Not a pos) (tNot tA) := by
  intro pins s σ H Q I h
  exact isTrue_not (ha pins s σ H (fun c H1 => Q (!c) H1) I h)
/-- .. as values (bools) -/
def tAndV (ta tb : TE) : TE := fun σ H Q => ta σ H fun x H1 => ∃ c, x = .bl c ∧ if c = true then tb σ H1 Q else Q (.bl false) H1
def tNotV (ta : TE) : TE := fun σ H Q => ta σ H fun x H1 => ∃ c, x = .bl c ∧ Q (.bl (!c)) H1
theorem pe_one {op} {t : TE} (h : PE X a t) : PE X (.BoolOp op [a] pos) t := fun pins s σ H Q I hw => BoolOp_one (h pins s σ H Q I hw)
theorem pe_and (ha : PE X a ta) (hb : PE X (.BoolOp .And (b :: rest) pos) tb) : PE X (.BoolOp .And (a :: b :: rest) pos) (tAndV ta tb) := by
  intro pins s σ H Q I h
  refine BoolOp_and (thn (ha pins s σ H _ I h) fun v s1 ⟨x, H1, I1, r1, q1⟩ => ?_)
  obtain ⟨c, rfl, q1⟩ := q1
  cases r1
  refine wpAny_truthy_bool ?_
  cases c with
  | true => exact hb pins s1 σ H1 Q I1 q1
  | false => exact ⟨.bl false, H1, I1, rfl, q1⟩
theorem pe_not (ha : PE X a ta) : PE X (.UnaryOp .Not a pos) (tNotV ta) := by
  intro pins s σ H Q I h
  refine UnaryOp_ (thn (ha pins s σ H _ I h) fun v s1 ⟨x, H1, I1, r1, q1⟩ => ?_)
  obtain ⟨c, rfl, q1⟩ := q1
  cases r1
  exact not_of (wpAny_truthy_bool ⟨.bl (!c), H1, I1, rfl, q1⟩)
end
end L2

namespace L2
open PySem PySem.Spec PyProof.Rows

/-! ### a list, a tuple that is read: tracked, frozen, or an object of the module -/
def SqL (K : PySem.W.Frag) (H : Hp) (a : Addr) (xs : List V) : Prop :=
  Rd H a (.lst xs) ∨
    ∃ (o : Obj) (its : Array Value) (n : Nat), K.lookup a = some o ∧ o.cls = .type "list" ∧ o.dict = none ∧ o.data = .seq its n ∧ its.size ≤ sizeLine ∧ Vals xs its.toList
def SqT (K : PySem.W.Frag) (H : Hp) (a : Addr) (xs : List V) : Prop :=
  Rd H a (.tup xs) ∨
    ∃ (o : Obj) (its : Array Value) (n : Nat), K.lookup a = some o ∧ o.cls = .type "tuple" ∧ o.data = .seq its n ∧ its.size ≤ sizeLine ∧ Vals xs its.toList
def absV : Value → Option V
  | .none => some .non
  | .bool b => some (.bl b)
  | .int i _ => some (.int i)
  | .str x _ => some (.str x)
  | .bytes b _ => some (.byt b)
  | .float b _ => some (.flt b)
  | .ref a => some (.ref a)
  | .type n => some (.ty n)
  | _ => none
theorem RelV.abs {x : V} {u : Value} (r : RelV x u) : absV u = some x := by
  cases x with
  | non => cases r; rfl
  | bl _ => cases r; rfl
  | int _ => obtain ⟨t, rfl⟩ := r; rfl
  | str _ => obtain ⟨t, rfl⟩ := r; rfl
  | byt _ => obtain ⟨t, rfl⟩ := r; rfl
  | flt _ => obtain ⟨t, rfl⟩ := r; rfl
  | ref _ => cases r; rfl
  | ty _ => cases r; rfl
theorem RelV.inj {x y : V} {u : Value} (r : RelV x u) (q : RelV y u) : x = y := Option.some.inj (r.abs.symm.trans q.abs)
theorem Vals.inj : ∀ {xs ys : List V} {us : List Value}, Vals xs us → Vals ys us → xs = ys
  | _, _, _, .nil, .nil => rfl
  | _, _, _, .cons r t, .cons r' t' => by rw [r.inj r', Vals.inj t t']
section
variable {X : Cx} {pins : List (Addr × Obj)} {σ : St} {H : Hp} {s : Shared} {a : Addr} {xs ys : List V}
theorem SqL.of {K : PySem.W.Frag} (h : H a = some (.lst xs)) : SqL K H a xs := .inl (.inl h)
theorem SqT.of {K : PySem.W.Frag} (h : H a = some (.tup xs)) : SqT K H a xs := .inl (.inl h)
theorem Inv.list (I : Inv X pins σ H s) (h : SqL X.K H a xs) : ∃ its : List Value, Vals xs its ∧ PlainL s.heap a its.toArray ∧ xs.length ≤ sizeLine := by
  rcases h with h | ⟨o, its, n, hk, hc, hd, hs, hz, r⟩
  · obtain ⟨z, its, n, r, e⟩ := h.ok I.hok
    exact ⟨its, r, ⟨_, n, e, rfl, rfl, rfl⟩, z⟩
  · refine ⟨its.toList, r, ⟨o, n, I.kIn a o hk, hc, hd, by simpa using hs⟩, ?_⟩
    have e := r.length
    simp only [Array.length_toList] at e
    omega
theorem Inv.tuple (I : Inv X pins σ H s) (h : SqT X.K H a xs) : ∃ its : List Value, Vals xs its ∧ IsTup s.heap a its.toArray ∧ xs.length ≤ sizeLine := by
  rcases h with h | ⟨o, its, n, hk, hc, hs, hz, r⟩
  · obtain ⟨z, its, r, p⟩ := h.ok I.hok
    exact ⟨its, r, p.isTup, z⟩
  · refine ⟨its.toList, r, ⟨o, I.kIn a o hk, hc, n, by simpa using hs⟩, ?_⟩
    have e := r.length
    simp only [Array.length_toList] at e
    omega
theorem Inv.list_inj (I : Inv X pins σ H s) (h : SqL X.K H a xs) (h' : SqL X.K H a ys) : xs = ys := by
  obtain ⟨its, r, ⟨o, n, e, _, _, d⟩, _⟩ := I.list h
  obtain ⟨its', r', ⟨o', n', e', _, _, d'⟩, _⟩ := I.list h'
  rw [e] at e'; cases e'
  rw [d] at d'
  injection d' with d1 _
  have : its = its' := by simpa using congrArg Array.toList d1
  subst this
  exact r.inj r'
theorem Inv.tuple_inj (I : Inv X pins σ H s) (h : SqT X.K H a xs) (h' : SqT X.K H a ys) : xs = ys := by
  obtain ⟨its, r, ⟨o, e, _, n, d⟩, _⟩ := I.tuple h
  obtain ⟨its', r', ⟨o', e', _, n', d'⟩, _⟩ := I.tuple h'
  rw [e] at e'; cases e'
  rw [d] at d'
  injection d' with d1 _
  have : its = its' := by simpa using congrArg Array.toList d1
  subst this
  exact r.inj r'
end

/-! ### another wish about exceptions -/
abbrev Cx.wish (X : Cx) (E : Value → Shared → Prop) : Cx := { X with xe := E }
/-- no exception leaves -/
abbrev Cx.nox (X : Cx) : Cx := X.wish fun _ _ => False
theorem Cx.Ok.wish {X : Cx} (ok : X.Ok) (E : Value → Shared → Prop) : (X.wish E).Ok :=
  ⟨ok.mod, ok.kind, ok.glob, ok.blt, ok.above, ok.inj, ok.has, ok.cab, ok.hd, ok.frames, ok.stk, ok.exf, ok.bs, ok.bsz, ok.noex, ok.exfs, ok.funs, ok.frf⟩
theorem Cx.Ok.unwish {X : Cx} {E : Value → Shared → Prop} (ok : (X.wish E).Ok) : X.Ok :=
  ⟨ok.mod, ok.kind, ok.glob, ok.blt, ok.above, ok.inj, ok.has, ok.cab, ok.hd, ok.frames, ok.stk, ok.exf, ok.bs, ok.bsz, ok.noex, ok.exfs, ok.funs, ok.frf⟩
section
variable {X : Cx} {pins : List (Addr × Obj)} {σ : St} {H : Hp} {s : Shared} {E : Value → Shared → Prop}
theorem Inv.wish (I : Inv X pins σ H s) (E : Value → Shared → Prop) : Inv (X.wish E) pins σ H s := ⟨I.ok.wish E, I.os, I.bare, I.base, I.loc, I.cell, I.free, I.freeC, I.pin, I.hok, I.len⟩
theorem Inv.unwish (I : Inv (X.wish E) pins σ H s) : Inv X pins σ H s := ⟨I.ok.unwish, I.os, I.bare, I.base, I.loc, I.cell, I.free, I.freeC, I.pin, I.hok, I.len⟩
theorem SP.unwish {D : Ends} {f : Flow} {s' : Shared} (h : SP (X.wish E) pins D f s') : SP X pins D f s' := by
  cases f with
  | next => obtain ⟨σ', H', I, q⟩ := h; exact ⟨σ', H', I.unwish, q⟩
  | brk => obtain ⟨σ', H', I, q⟩ := h; exact ⟨σ', H', I.unwish, q⟩
  | cont => obtain ⟨σ', H', I, q⟩ := h; exact ⟨σ', H', I.unwish, q⟩
  | ret u => obtain ⟨v, σ', H', I, r, q⟩ := h; exact ⟨v, σ', H', I.unwish, r, q⟩
theorem PSs.nox {st : List Stmt} {t : TS} (h : PSs X.nox st t) : PSs X st t := fun pins s σ H D I hw =>
  wpAny_mono (h pins s σ H D (I.wish _) hw) (fun _ _ q => q.unwish) fun _ _ z => False.elim z
end

/-! ### blocks and small statements -/
section
variable {X : Cx} {st : Stmt} {rest : List Stmt} {t u : TS} {e : Expr} {te : TE} {pos : Pos}
def tNext : TS := fun D σ H => D.nx σ H
def tSeq (t u : TS) : TS := fun D σ H => t { D with nx := u D } σ H
theorem pss_nil : PSs X [] tNext := fun _ _ σ H _ I h => wpAny_execs_nil ⟨σ, H, I, h⟩
theorem pss_cons (h1 : PS X st t) (h2 : PSs X rest u) : PSs X (st :: rest) (tSeq t u) := by
  intro pins s σ H D I h
  refine wpAny_execs_cons (thn (h1 pins s σ H { D with nx := u D } I h) fun f s1 q => ?_)
  cases f with
  | next =>
    obtain ⟨σ', H', I', q⟩ := q
    exact h2 pins s1 σ' H' D I' q
  | ret v => exact q
  | brk => exact q
  | cont => exact q
theorem pss_one (h1 : PS X st t) : PSs X [st] t := by
  intro pins s σ H D I h
  refine wpAny_execs_cons (thn (h1 pins s σ H D I h) fun f s1 q => ?_)
  cases f with
  | next => exact wpAny_execs_nil q
  | ret v => exact q
  | brk => exact q
  | cont => exact q
/-- in a def's body nothing is shown -/
theorem Inv.quiet {pins : List (Addr × Obj)} {σ : St} {H : Hp} {s : Shared} (I : Inv X pins σ H s) : interactive X.env = false := by simp [interactive, I.ok.kind]
/-- an expression whose value is dropped -/
def tDrop (te : TE) : TS := fun D σ H => te σ H fun _ H1 => D.nx σ H1
theorem ps_expr (he : PE X e te) (hs : swapsWith e none pos.line X.env = pure false := by rfl) : PS X (.Expr e pos) (tDrop te) := by
  intro pins s σ H D I h
  exact wpAny_Expr_any (thn (he pins s σ H _ I h) fun v s1 ⟨x, H1, I1, r1, q1⟩ => ⟨σ, H1, I1, q1⟩) I.quiet hs
def tRet (te : TE) : TS := fun D σ H => te σ H D.rt
theorem ps_ret (he : PE X e te) : PS X (.Return (some e) pos) (tRet te) := by
  intro pins s σ H D I h
  exact wpAny_Return_some (thn (he pins s σ H _ I h) fun v s1 ⟨x, H1, I1, r1, q1⟩ => ⟨x, σ, H1, I1, r1, q1⟩)
def tIfS (c : TT) (t u : TS) : TS := fun D σ H => c σ H fun b H1 => if b = true then t D σ H1 else u D σ H1
theorem ps_if {c : Expr} {a b : List Stmt} {tc : TT} (hc : PT X c tc) (ha : PSs X a t) (hb : PSs X b u) : PS X (.If c a b pos) (tIfS tc t u) := by
  intro pins s σ H D I h
  refine wpAny_If (thn (hc pins s σ H _ I h) fun d s1 ⟨H1, I1, q1⟩ => ?_)
  cases d with
  | true => exact ha pins s1 σ H1 D I1 q1
  | false => exact hb pins s1 σ H1 D I1 q1
end

/-! ### targets -/
abbrev TG := V → St → Hp → (St → Hp → Prop) → Prop
abbrev TGs := List V → St → Hp → (St → Hp → Prop) → Prop
def PG (X : Cx) (target : Expr) (t : TG) : Prop :=
  ∀ (pins : List (Addr × Obj)) (s : Shared) (σ : St) (H : Hp) (v : V) (u : Value) (Q : St → Hp → Prop), Inv X pins σ H s → RelV v u → t v σ H Q →
    wpAny (model X.prog X.w) X.A (assign target X.env u) (fun _ s' => ∃ σ' H', Inv X pins σ' H' s' ∧ Q σ' H') X.xe s
/-- several targets, one after another -/
def PGs (X : Cx) (ts : List Expr) (t : TGs) : Prop :=
  ∀ (pins : List (Addr × Obj)) (s : Shared) (σ : St) (H : Hp) (vs : List V) (us : List Value) (Q : St → Hp → Prop), Inv X pins σ H s → Vals vs us → t vs σ H Q →
    wpAny (model X.prog X.w) X.A (assignInOrder ((assignEach ts X.env).map (·.2)) us) (fun _ s' => ∃ σ' H', Inv X pins σ' H' s' ∧ Q σ' H') X.xe s
/-- o[i] = v, by values -/
abbrev TSet := V → V → V → Hp → (Hp → Prop) → Prop
def PSet (X : Cx) (t : TSet) : Prop :=
  ∀ (pins : List (Addr × Obj)) (s : Shared) (σ : St) (H : Hp) (o i v : V) (ov iv u : Value) (Q : Hp → Prop), Inv X pins σ H s → RelV o ov → RelV i iv → RelV v u → t o i v H Q →
    wpAny (model X.prog X.w) X.A (setItem ov iv u) (fun _ s' => ∃ H', Inv X pins σ H' s' ∧ Q H') X.xe s
section
variable {X : Cx} {pos : Pos}
def gName (i : Nat) : TG := fun v σ H Q => Q (σ.set i (some v)) H
theorem pg_name {i : Nat} {x : Str} (hN : X.N.Nodup) (hi : X.N[i]? = some x) (hx : Loc X.env.scope x) (hf : X.fn x = true ∨ X.env.scope.names.lookup x = some .local := by first | exact .inl rfl | exact .inr rfl | assumption) : PG X (.Name x pos) (gName i) := by
  intro pins s σ H v u Q I r h
  exact wpAny_assign_Name (store_ok I hN hi hx r (fun s' I' => ⟨_, H, I', h⟩) hf)
def gNil : TGs := fun vs σ H Q => vs = [] ∧ Q σ H
def gCons (t : TG) (u : TGs) : TGs := fun vs σ H Q => ∃ v r, vs = v :: r ∧ t v σ H fun σ' H' => u r σ' H' Q
theorem pgs_nil : PGs X [] gNil := by
  intro pins s σ H vs us Q I r h
  obtain ⟨e, h⟩ := h
  subst e
  cases r
  exact assignInOrder_nil ⟨σ, H, I, h⟩
theorem pgs_cons {e : Expr} {es : List Expr} {t : TG} {u : TGs} (h1 : PG X e t) (h2 : PGs X es u)
    (hs : (assignEach (e :: es) X.env).map (·.2) = assign e X.env :: (assignEach es X.env).map (·.2) := by rfl) : PGs X (e :: es) (gCons t u) := by
  intro pins s σ H vs us Q I r h
  obtain ⟨v, vr, e1, h⟩ := h
  subst e1
  cases r with
  | cons r rr =>
    rw [hs]
    refine assignInOrder_cons (thn (h1 pins s σ H _ _ _ I r h) fun _ s1 ⟨σ1, H1, I1, q1⟩ => ?_)
    exact h2 pins s1 σ1 H1 _ _ Q I1 rr q1
/-- (a, b, ..) = a tuple of that length -/
def gTup (K : PySem.W.Frag) (n : Nat) (t : TGs) : TG := fun v σ H Q => ∃ a xs, v = .ref a ∧ SqT K H a xs ∧ xs.length = n ∧ t xs σ H Q
theorem pg_tup {es : List Expr} {k : Nat} {t : TGs} {n : Nat} (hc : X.calm = true) (h : PGs X es t)
    (hn : (assignEach es X.env).length = n := by rfl) (hst : (assignEach es X.env).findIdx? (·.1) = none := by rfl) : PG X (.Tuple es k pos) (gTup X.K n t) := by
  intro pins s σ H v u Q I r hw
  obtain ⟨a, xs, e1, hq, hl, hw⟩ := hw
  subst e1
  cases r
  obtain ⟨its, rv, ht, hz⟩ := I.tuple hq
  refine assign_Tuple_tuple (I.ok.hd hc) ht (by simp [hn, ← hl, rv.length]) hst fun h' hx => ?_
  have I1 : Inv X pins σ H { s with heap := h' } := I.kept (t' := s.toks) fun b o e => hx b o (Nat.ne_of_lt (Heap.lt_size e)) e
  exact h pins _ σ H xs _ Q I1 (by simpa using rv) hw
/-- o[i] = .. -/
def gSub (to ti : TE) (t : TSet) : TG := fun v σ H Q => to σ H fun o H1 => ti σ H1 fun i H2 => t o i v H2 fun H3 => Q σ H3
theorem pg_sub {o i : Expr} {to ti : TE} {t : TSet} (ho : PE X o to) (hi : PE X i ti) (hs : PSet X t)
    (ha : ∀ v, assign (.Subscript o i pos) X.env v = (do
      let ov ← holding [v] (eval o X.env)
      let iv ← holding [v, ov] (eval i X.env)
      standAt pos
      holding [v, ov, iv] (setItem ov iv v)
      release [v, ov, iv] []) := by intro _; rfl) : PG X (.Subscript o i pos) (gSub to ti t) := by
  intro pins s σ H v u Q I r h
  rw [ha]
  refine wpAny_bind (wpAny_holding (thn (ho pins s σ H _ I h) fun ov s1 ⟨x, H1, I1, r1, q1⟩ => ?_))
  refine wpAny_bind (wpAny_holding (thn (hi pins s1 σ H1 _ I1 q1) fun iv s2 ⟨y, H2, I2, r2, q2⟩ => ?_))
  refine wpAny_bind (wpAny_standAt (wpAny_bind (wpAny_holding (thn (hs pins s2 σ H2 x y v ov iv u _ I2 r1 r2 r q2) fun _ s3 ⟨H3, I3, q3⟩ => ?_))))
  exact wpAny_release ⟨σ, H3, I3, q3⟩
/-- target = value -/
def tAsg (te : TE) (g : TG) : TS := fun D σ H => te σ H fun x H1 => g x σ H1 D.nx
theorem ps_asg {tg e : Expr} {te : TE} {g : TG} (he : PE X e te) (hg : PG X tg g) (hs : swapsWithSole [tg] e pos.line X.env = pure false := by rfl) (hw : swappedStores [tg] e X.env = pure none := by rfl)
    (h1 : (assignEach [tg] X.env).map (·.2) = [assign tg X.env] := by rfl) : PS X (.Assign [tg] e pos) (tAsg te g) := by
  intro pins s σ H D I h
  refine wpAny_Assign_stores (thn (he pins s σ H _ I h) fun v s1 ⟨x, H1, I1, r1, q1⟩ => ?_) hs hw
  rw [h1]
  exact thn (hg pins s1 σ H1 x v _ I1 r1 q1) fun _ s2 q => q
/-- name = value -/
theorem ps_set {i : Nat} {x : Str} {e : Expr} {te : TE} {pos' : Pos} (hN : X.N.Nodup) (hi : X.N[i]? = some x) (hx : Loc X.env.scope x) (he : PE X e te) (hs : swapsWith e (some (.Name x pos')) pos.line X.env = pure false := by rfl) (hf : X.fn x = true ∨ X.env.scope.names.lookup x = some .local := by first | exact .inl rfl | exact .inr rfl | assumption) :
    PS X (.Assign [.Name x pos'] e pos) (tAsg te (gName i)) := by
  intro pins s σ H D I h
  refine wpAny_Assign_Name (thn (he pins s σ H _ I h) fun v s1 ⟨y, H1, I1, r1, q1⟩ => ?_) hs
  exact store_ok I1 hN hi hx r1 (fun s2 I2 => ⟨_, H1, I2, q1⟩) hf
end

/-! ### while -/
section
variable {X : Cx} {pos : Pos}
end

/-! ### what a loop or a comprehension walks -/
/-- at turn i: it yields x (the heap may grow), or it stops -/
structure It where
  go : Nat → Hp → Prop
  yld : Nat → Hp → V → Hp → Prop
  stop : Nat → Hp → Prop
/-- the iterator's own objects may turn: they are not the frame's, not pinned, younger than the entry (or a comprehension's own) -/
def FpOk (X : Cx) (pins : List (Addr × Obj)) (H : Hp) (b : Addr) : Prop :=
  H b = none ∧ b ≠ X.env.locals ∧ b ∉ X.fs ∧ (b ∈ X.ex ∨ X.s₀.heap.objs.size ≤ b) ∧ (∀ x c, X.env.cells.lookup x = some c → c ≠ b) ∧ ∀ p ∈ X.pn ++ pins, p.1 ≠ b
theorem Inv.fpOk {X : Cx} {pins : List (Addr × Obj)} {σ : St} {H H' : Hp} {s : Shared} {b : Addr} (I : Inv X pins σ H s) (hb : s.heap.objs.size ≤ b) (hn : H' b = none) : FpOk X pins H' b := by
  refine ⟨hn, Nat.ne_of_gt (Nat.lt_of_lt_of_le I.lt hb), I.nofs hb, .inr (Nat.le_trans I.sz hb), fun x c e z => ?_, fun p hp z => ?_⟩
  · obtain ⟨v, q⟩ := I.cell x c e
    exact absurd (Nat.lt_of_lt_of_le q.lt (by rw [z]; exact hb)) (Nat.lt_irrefl _)
  · exact absurd (Nat.lt_of_lt_of_le (Heap.lt_size (I.pin p hp).1) (by rw [z]; exact hb)) (Nat.lt_irrefl _)
structure Turn (P : Program) (w : World) (K : PySem.W.Frag) (tg : Expr) (J : It) (fp : List Addr) (it : Addr) (tn : Nat → Heap → Prop) : Prop where
  mem : it ∈ fp
  obj : ∀ i h, tn i h → ∀ b ∈ fp, ∃ o, h.get? b = some o ∧ ∀ v, o.data ≠ .cell v
  keep : ∀ i h h', tn i h → (∀ b ∈ fp, ∀ o, h.get? b = some o → h'.get? b = some o) → tn i h'
  item : ∀ (X : Cx), X.prog = P → X.w = w → X.K = K → X.calm = true → ∀ (i : Nat) (pins : List (Addr × Obj)) (s : Shared) (σ : St) (H : Hp) (E : Value → Shared → Prop), Inv X pins σ H s → (∀ b ∈ fp, FpOk X pins H b) → tn i s.heap → J.go i H →
    wpAny (model P w) X.A (pyNext (.ref it)) (fun r s1 => ∃ u, r = some u ∧
      wpAny (model P w) X.A (letOwnedTupleGo tg (.ref it) u) (fun _ s2 => ∃ x H', Inv X pins σ H' s2 ∧ RelV x u ∧ J.yld i H x H' ∧ tn (i + 1) s2.heap ∧ ∀ b ∈ fp, H' b = none) E s1) E s
  done : ∀ (X : Cx), X.prog = P → X.w = w → X.K = K → X.calm = true → ∀ (i : Nat) (pins : List (Addr × Obj)) (s : Shared) (σ : St) (H : Hp) (E : Value → Shared → Prop), Inv X pins σ H s → (∀ b ∈ fp, FpOk X pins H b) → tn i s.heap → J.stop i H →
    wpAny (model P w) X.A (pyNext (.ref it)) (fun r s1 => r = none ∧ Inv X pins σ H s1) E s
  self : ∀ (A : Around) (i : Nat) (s : Shared) (Q : Value → Shared → Prop) (E : Value → Shared → Prop), tn i s.heap → Q (.ref it) s → wpAny (model P w) A (pyIter (.ref it)) Q E s
abbrev TI := St → Hp → (It → Hp → Prop) → Prop
/-- an iterator has come -/
def PIE (X : Cx) (pins : List (Addr × Obj)) (σ : St) (tg : Expr) (R : It → Hp → Prop) (itv : Value) (s2 : Shared) : Prop :=
  ∃ (it : Addr) (fp : List Addr) (tn : Nat → Heap → Prop) (J : It) (H' : Hp), itv = .ref it ∧ Inv X pins σ H' s2 ∧ Turn X.prog X.w X.K tg J fp it tn ∧ tn 0 s2.heap ∧ (∀ b ∈ fp, FpOk X pins H' b) ∧ R J H'
def PI (X : Cx) (tg iter : Expr) (wi : TI) : Prop :=
  ∀ (pins : List (Addr × Obj)) (s : Shared) (σ : St) (H : Hp) (R : It → Hp → Prop), Inv X pins σ H s → wi σ H R →
    wpAny (model X.prog X.w) X.A (eval iter X.env) (fun v s1 => wpAny (model X.prog X.w) X.A (pyIter v) (PIE X pins σ tg R) X.xe s1) X.xe s

/-- the step ahead of the store is nothing for an iterator that keeps no tuple -/
theorem go_of {M : Model} {A : Around} {E : Value → Shared → Prop} {s : Shared} {tg : Expr} {it : Addr} {u : Value} {o : Obj} {n : String} {vs : Array Value} {Q : Unit → Shared → Prop} (ho : s.heap.get? it = some o) (hc : o.cls = .type n) (hd : o.data = .fields vs)
    (hn : ["enumerate", "zip", "dict_itemiterator", "dict_reverseitemiterator", "odict_iterator", "itertools.zip_longest", "itertools.pairwise"].contains n = false) (hQ : Q () s) : wpAny M A (letOwnedTupleGo tg (.ref it) u) Q E s := by
  unfold letOwnedTupleGo
  cases tg <;> first
    | exact wpAny_pure hQ
    | (cases u <;> first
        | exact wpAny_pure hQ
        | (refine wpAny_bind (wpAny_load ho ?_)
           rw [hc, hd]
           show wpAny M A (if (["enumerate", "zip", "dict_itemiterator", "dict_reverseitemiterator", "odict_iterator", "itertools.zip_longest", "itertools.pairwise"].contains n && vs[0]? == some (rawInt _)) = true then _ else _) Q E s
           rw [if_neg (by intro h; rw [hn, Bool.false_and] at h; cases h)]
           exact wpAny_pure hQ))

/-- the list at a, as it stands at each turn (a loop may append to it) -/
def Itl (K : PySem.W.Frag) (a : Addr) : It :=
  ⟨fun i H => ∃ xs x, SqL K H a xs ∧ xs[i]? = some x, fun i H x H' => H' = H ∧ ∀ xs, SqL K H a xs → xs[i]? = some x, fun i H => ∃ xs, SqL K H a xs ∧ xs.length ≤ i⟩
def Itt (K : PySem.W.Frag) (a : Addr) : It :=
  ⟨fun i H => ∃ xs x, SqT K H a xs ∧ xs[i]? = some x, fun i H x H' => H' = H ∧ ∀ xs, SqT K H a xs → xs[i]? = some x, fun i H => ∃ xs, SqT K H a xs ∧ xs.length ≤ i⟩
/-- lo, lo + 1, .. (n of them) -/
def Itr (lo : Int) (n : Nat) : It := ⟨fun i _ => i < n, fun i H x H' => H' = H ∧ x = .int (lo + i), fun i _ => n ≤ i⟩
theorem turn_list {P : Program} {w : World} {K : PySem.W.Frag} {tg : Expr} (a it : Addr) : Turn P w K tg (Itl K a) [it] it (fun i h => h.IsListIter it a i) where
  mem := by simp
  obj := fun i h st b hb => by
    have e : b = it := by simpa using hb
    subst e
    obtain ⟨o, e, c, d⟩ := st
    exact ⟨o, e, fun v z => by rw [d] at z; cases z⟩
  keep := fun i h h' st k => st.at fun o e => k it (by simp) o e
  item := by
    intro X hP hw hK hc i pins s σ H E I hf st hg
    subst hP hw hK
    obtain ⟨xs, x, hq, hx⟩ := hg
    obtain ⟨its, rv, p, hz⟩ := I.list hq
    obtain ⟨u, hu, ru⟩ := rv.get hx
    obtain ⟨f0, f1, f2, f3, f4, f5⟩ := hf it (by simp)
    refine wpAny_pyNext_list_item st p.isList (x := u) (by simpa using hu) fun h' st' sb => ?_
    have I1 : Inv X pins σ H { s with heap := h' } := I.turned (t' := s.toks) (fun b o hb e => (sb.2 b hb).trans e) f0 f1 f3 f4 f5
    obtain ⟨o, e, c, d⟩ := id st'
    exact ⟨u, rfl, go_of (s := { s with heap := h' }) e c d (by decide) ⟨x, H, I1, ru, ⟨rfl, fun ys hy => by rw [I.list_inj hy hq]; exact hx⟩, st', fun b hb => (hf b hb).1⟩⟩
  done := by
    intro X hP hw hK hc i pins s σ H E I hf st hg
    subst hP hw hK
    obtain ⟨xs, hq, hx⟩ := hg
    obtain ⟨its, rv, p, hz⟩ := I.list hq
    obtain ⟨f0, f1, f2, f3, f4, f5⟩ := hf it (by simp)
    have hl := rv.length
    exact wpAny_pyNext_list_end (I.ok.hd hc) st p.isList (by simp; omega) fun h' eb => ⟨rfl, I.turned (t' := s.toks) (fun b o hb e => eb b o hb e) f0 f1 f3 f4 f5⟩
  self := fun _ _ _ _ _ st h => wpAny_pyIter_listiter st h
theorem turn_tuple {P : Program} {w : World} {K : PySem.W.Frag} {tg : Expr} (a it : Addr) : Turn P w K tg (Itt K a) [it] it (fun i h => h.IsTupleIter it a i) where
  mem := by simp
  obj := fun i h st b hb => by
    have e : b = it := by simpa using hb
    subst e
    obtain ⟨o, e, c, d⟩ := st
    exact ⟨o, e, fun v z => by rw [d] at z; cases z⟩
  keep := fun i h h' st k => st.at fun o e => k it (by simp) o e
  item := by
    intro X hP hw hK hc i pins s σ H E I hf st hg
    subst hP hw hK
    obtain ⟨xs, x, hq, hx⟩ := hg
    obtain ⟨its, rv, p, hz⟩ := I.tuple hq
    obtain ⟨u, hu, ru⟩ := rv.get hx
    obtain ⟨f0, f1, f2, f3, f4, f5⟩ := hf it (by simp)
    refine wpAny_pyNext_tuple_item st (show s.heap.IsTuple a its.toArray from p) (x := u) (by simpa using hu) fun h' st' sb => ?_
    have I1 : Inv X pins σ H { s with heap := h' } := I.turned (t' := s.toks) (fun b o hb e => (sb.2 b hb).trans e) f0 f1 f3 f4 f5
    obtain ⟨o, e, c, d⟩ := id st'
    exact ⟨u, rfl, go_of (s := { s with heap := h' }) e c d (by decide) ⟨x, H, I1, ru, ⟨rfl, fun ys hy => by rw [I.tuple_inj hy hq]; exact hx⟩, st', fun b hb => (hf b hb).1⟩⟩
  done := by
    intro X hP hw hK hc i pins s σ H E I hf st hg
    subst hP hw hK
    obtain ⟨xs, hq, hx⟩ := hg
    obtain ⟨its, rv, p, hz⟩ := I.tuple hq
    obtain ⟨f0, f1, f2, f3, f4, f5⟩ := hf it (by simp)
    have hl := rv.length
    exact wpAny_pyNext_tuple_end (I.ok.hd hc) st (show s.heap.IsTuple a its.toArray from p) (by simp; omega) fun h' eb => ⟨rfl, I.turned (t' := s.toks) (fun b o hb e => eb b o hb e) f0 f1 f3 f4 f5⟩
  self := fun _ _ _ _ _ st h => wpAny_pyIter_tupleiter st h
theorem turn_range {P : Program} {w : World} {K : PySem.W.Frag} {tg : Expr} (it : Addr) (lo : Int) (n : Nat) : Turn P w K tg (Itr lo n) [it] it (fun i h => IsRangeIter h it (lo + (i : Nat) * 1) ((n : Int) - (i : Nat)) 1) where
  mem := by simp
  obj := fun i h st b hb => by
    have e : b = it := by simpa using hb
    subst e
    exact ⟨_, st, fun v z => by
      have z' : Data.fields _ = Data.cell v := z
      cases z'⟩
  keep := fun i h h' st k => k it (by simp) _ st
  item := by
    intro X hP hw hK hc i pins s σ H E I hf st hg
    subst hP hw hK
    obtain ⟨f0, f1, f2, f3, f4, f5⟩ := hf it (by simp)
    have W := Walks.range (prog := X.prog) (w := X.w) (I.ok.hd hc) it lo 1 n
    refine W.item i s _ _ hg st fun v h' tk hv st' kk => ?_
    obtain ⟨t, rfl⟩ := hv
    have I1 : Inv X pins σ H { s with heap := h', toks := tk } := I.turned (fun b o hb e => kk b o (by simpa using hb) e) f0 f1 f3 f4 f5
    refine ⟨_, rfl, go_of (s := { s with heap := h', toks := tk }) (n := "range_iterator") st' rfl rfl (by decide) ⟨.int (lo + i), H, I1, ⟨t, ?_⟩, ⟨rfl, rfl⟩, st', fun b hb => (hf b hb).1⟩⟩
    rw [Int.mul_one]
  done := by
    intro X hP hw hK hc i pins s σ H E I hf st hg
    subst hP hw hK
    obtain ⟨f0, f1, f2, f3, f4, f5⟩ := hf it (by simp)
    exact wpAny_pyNext_range_end (I.ok.hd hc) st (by have : n ≤ i := hg; omega) fun h' eb => ⟨rfl, I.turned (t' := s.toks) (fun b o hb e => eb b o hb e) f0 f1 f3 f4 f5⟩
  self := fun _ _ _ _ _ st h => wpAny_pyIter_rangeiter st h
end L2

namespace L2
open PySem PySem.Spec PyProof.Rows
section
variable {X : Cx} {tg : Expr}
def iList (K : PySem.W.Frag) (tl : TE) : TI := fun σ H R => tl σ H fun x H1 => ∃ a, x = .ref a ∧ (∃ xs, SqL K H1 a xs) ∧ R (Itl K a) H1
def iTup (K : PySem.W.Frag) (tl : TE) : TI := fun σ H R => tl σ H fun x H1 => ∃ a, x = .ref a ∧ (∃ xs, SqT K H1 a xs) ∧ R (Itt K a) H1
theorem pi_list {l : Expr} {tl : TE} (hl : PE X l tl) : PI X tg l (iList X.K tl) := by
  intro pins s σ H R I h
  refine thn (hl pins s σ H _ I h) fun v s1 ⟨x, H1, I1, r1, q1⟩ => ?_
  obtain ⟨a, e, ⟨xs, hq⟩, q⟩ := q1
  subst e
  cases r1
  obtain ⟨its, rv, p, hz⟩ := I1.list hq
  refine wpAny_pyIter_list p.isList ?_
  refine ⟨s1.heap.objs.size, [s1.heap.objs.size], _, _, H1, rfl, I1.kept (t' := s1.toks) fun b o e => Heap.get?_push_of_some _ e, turn_list a _, ⟨_, Heap.get?_push_size _ rfl, rfl, rfl⟩, fun b hb => ?_, q⟩
  have e : b = s1.heap.objs.size := by simpa using hb
  subst e
  exact I1.fpOk (Nat.le_refl _) (I1.hok.fresh (Nat.le_refl _))
theorem pi_tup {l : Expr} {tl : TE} (hl : PE X l tl) : PI X tg l (iTup X.K tl) := by
  intro pins s σ H R I h
  refine thn (hl pins s σ H _ I h) fun v s1 ⟨x, H1, I1, r1, q1⟩ => ?_
  obtain ⟨a, e, ⟨xs, hq⟩, q⟩ := q1
  subst e
  cases r1
  obtain ⟨its, rv, p, hz⟩ := I1.tuple hq
  refine wpAny_pyIter_tuple (show s1.heap.IsTuple a its.toArray from p) ?_
  refine ⟨s1.heap.objs.size, [s1.heap.objs.size], _, _, H1, rfl, I1.kept (t' := s1.toks) fun b o e => Heap.get?_push_of_some _ e, turn_tuple a _, ⟨_, Heap.get?_push_size _ rfl, rfl, rfl⟩, fun b hb => ?_, q⟩
  have e : b = s1.heap.objs.size := by simpa using hb
  subst e
  exact I1.fpOk (Nat.le_refl _) (I1.hok.fresh (Nat.le_refl _))
/-- a range object just made, walked -/
theorem range_it {pins : List (Addr × Obj)} {σ : St} {H : Hp} {s : Shared} {R : It → Hp → Prop} {E : Value → Shared → Prop} {lo hi : Int} {t u v : Tok} {tk : Nat} (I : Inv X pins σ H s) (h1 : -(2 ^ 62) ≤ lo) (h2 : lo < 2 ^ 62) (h3 : -(2 ^ 62) ≤ hi) (h4 : hi < 2 ^ 62)
    (q : R (Itr lo (hi - lo).toNat) H) : wpAny (model X.prog X.w) X.A (pyIter (.ref s.heap.objs.size)) (PIE X pins σ tg R) E { s with heap := s.heap.push { cls := .type "range", data := .fields #[.int lo t, .int hi u, .int 1 v] }, toks := tk } := by
  refine wpAny_pyIter_range (IsRange.new ..) (small_one h1 h2 h3 h4) ?_
  have I1 : Inv X pins σ H { s with heap := s.heap.push { cls := .type "range", data := .fields #[.int lo t, .int hi u, .int 1 v] }, toks := tk } := I.kept fun b o e => Heap.get?_push_of_some _ e
  refine ⟨(s.heap.push { cls := .type "range", data := .fields #[.int lo t, .int hi u, .int 1 v] }).objs.size, [(s.heap.push { cls := .type "range", data := .fields #[.int lo t, .int hi u, .int 1 v] }).objs.size], _, _, H, rfl,
    I1.kept (t' := tk) fun b o e => Heap.get?_push_of_some _ e, turn_range _ lo (hi - lo).toNat, ?_, fun b hb => ?_, q⟩
  · have e1 : lo + ((0 : Nat) : Int) * 1 = lo := by simp
    have e2 : (((hi - lo).toNat : Nat) : Int) - ((0 : Nat) : Int) = Builtin.Range.rangeSize lo hi 1 := by rw [rangeSize_one]; split <;> omega
    show IsRangeIter _ _ (lo + ((0 : Nat) : Int) * 1) ((((hi - lo).toNat : Nat) : Int) - ((0 : Nat) : Int)) 1
    rw [e1, e2]
    exact Heap.get?_push_size _ rfl
  · have e : b = (s.heap.push { cls := .type "range", data := .fields #[.int lo t, .int hi u, .int 1 v] }).objs.size := by simpa using hb
    subst e
    exact I1.fpOk (Nat.le_refl _) (I1.hok.fresh (Nat.le_refl _))
def iRng1 (ta : TA) : TI := fun σ H R => ta σ H fun vs H1 => ∃ j : Int, vs = [.int j] ∧ -(2 ^ 62) ≤ j ∧ j < 2 ^ 62 ∧ R (Itr 0 j.toNat) H1
theorem pi_range1 {a : Expr} {ta : TA} {p pos : Pos} (hg : Gl X "range") (hm : X.mg "range" = none) (ha : PA X [a] ta) (hs : starEach [a] X.env = [(false, eval a X.env)] := by rfl) : PI X tg (.Call (.Name "range" p) [a] [] pos) (iRng1 ta) := by
  intro pins s σ H R I h
  refine Call_ (ld_blt I hg hm boot_range (PyProof.Rows.callWith_type1 (thn (ha pos pins s σ H _ I h) fun us s1 ⟨vs, H1, I1, r1, q1⟩ => ?_) hs rfl))
  obtain ⟨j, e, q1, q2, q⟩ := q1
  subst e
  cases r1 with
  | cons r rr =>
    cases rr
    obtain ⟨t, rfl⟩ := r
    exact call_range_1 (range_it I1 (by omega) (by omega) q1 q2 (by simpa using q))

/-! ### for -/
/-- W: the invariant by the turn and a measure; N: what the body is to reach -/
def tFor (wi : TI) (g : TG) (tb : TS) : TS := fun D σ H => wi σ H fun J H1 => ∃ W : Nat → Nat → St → Hp → Prop, (∃ m, W 0 m σ H1) ∧ ∀ i m σ H, W i m σ H →
  (J.stop i H ∧ D.nx σ H) ∨ (J.go i H ∧ ∃ N : St → Hp → Prop, (∀ σ' H', N σ' H' → ∃ m', m' < m ∧ W (i + 1) m' σ' H') ∧ ∀ x H', J.yld i H x H' → g x σ H' fun σ2 H2 => tb { D with nx := N, ct := N, bk := D.nx } σ2 H2)
/-- the records at fp as they stand -/
def pinsAt (fp : List Addr) (h : Heap) : List (Addr × Obj) := fp.filterMap fun b => (h.get? b).map fun o => (b, o)
theorem mem_pinsAt {fp : List Addr} {h : Heap} {b : Addr} {o : Obj} (hb : b ∈ fp) (e : h.get? b = some o) : (b, o) ∈ pinsAt fp h := List.mem_filterMap.mpr ⟨b, hb, by rw [e]; rfl⟩
theorem of_pinsAt {fp : List Addr} {h : Heap} {p : Addr × Obj} (hp : p ∈ pinsAt fp h) : p.1 ∈ fp ∧ h.get? p.1 = some p.2 := by
  obtain ⟨b, hb, e⟩ := List.mem_filterMap.mp hp
  cases q : h.get? b with
  | none => rw [q] at e; cases e
  | some o =>
    rw [q] at e
    have e' : (b, o) = p := Option.some.inj e
    subst e'
    exact ⟨hb, q⟩
theorem Inv.pinned {pins : List (Addr × Obj)} {σ : St} {H : Hp} {s : Shared} {fp : List Addr} (I : Inv X pins σ H s) (hf : ∀ b ∈ fp, FpOk X pins H b) (ho : ∀ b ∈ fp, ∃ o, s.heap.get? b = some o ∧ ∀ v, o.data ≠ .cell v) : Inv X (pins ++ pinsAt fp s.heap) σ H s :=
  I.pins_of fun p hp => (List.mem_append.mp hp).elim (fun z => I.pin p (List.mem_append_right _ z)) fun z => by
    obtain ⟨hb, e⟩ := of_pinsAt z
    obtain ⟨f0, f1, f2, _⟩ := hf p.1 hb
    obtain ⟨o, e', d⟩ := ho p.1 hb
    rw [e] at e'; cases e'
    exact ⟨e, f0, f1, f2, d⟩
theorem Inv.unpinned {pins pl : List (Addr × Obj)} {σ : St} {H : Hp} {s : Shared} (I : Inv X (pins ++ pl) σ H s) : Inv X pins σ H s := I.pins_of fun p hp => I.pin p (List.mem_append_right _ (List.mem_append_left _ hp))
theorem ps_for {iter : Expr} {body : List Stmt} {wi : TI} {g : TG} {tb : TS} {pos : Pos} (hp : PassesOwn (model X.prog X.w) X.A X.env X.xe) (hc : X.calm = true) (hi : PI X tg iter wi) (hg : PG X tg g) (hb : PSs X body tb)
    (hs : ∀ x, foldedSetIterable iter X.env x = pure x := by intro _; rfl) : PS X (.For tg iter body [] pos) (tFor wi g tb) := by
  intro pins s σ H D I h
  refine wpAny_For (thn (hi pins s σ H _ I h) fun v s1 h1 => thn h1 fun itv s2 h2 => ?_) hs
  obtain ⟨it, fp, tn, J, H2, e, I2, T, st2, f2, W, ⟨m0, w0⟩, turn⟩ := h2
  subst e
  -- what stays true of the iterator's objects through the loop
  have stat : ∀ {H' : Hp}, (∀ b ∈ fp, H' b = none) → ∀ b ∈ fp, FpOk X pins H' b := fun hn b hb => ⟨hn b hb, (f2 b hb).2⟩
  refine codeAny_forLoop_any (fun n s' => ∃ i σ' H', Inv X pins σ' H' s' ∧ tn i s'.heap ∧ (∀ b ∈ fp, H' b = none) ∧ W i n σ' H') ?_ m0 ⟨0, σ, H2, I2, st2, fun b hb => (f2 b hb).1, w0⟩
  rintro n s3 ⟨i, σ3, H3, I3, st3, fr3, w3⟩
  rcases turn i n σ3 H3 w3 with ⟨stop, qn⟩ | ⟨go, N, hN, step⟩
  · refine wpAny_passesOwn hp (thn (T.done X rfl rfl rfl hc i pins s3 σ3 H3 X.xe I3 (stat fr3) st3 stop) fun r s4 ⟨hr, I4⟩ => ?_)
    subst hr
    exact wpAny_execs_nil ⟨σ3, H3, I4, qn⟩
  · refine wpAny_passesOwn hp (thn (T.item X rfl rfl rfl hc i pins s3 σ3 H3 X.xe I3 (stat fr3) st3 go) fun r s4 ⟨u, hr, h4⟩ => ?_)
    subst hr
    refine wpAny_passesOwn hp (thn h4 fun _ s5 ⟨x, H5, I5, r5, y5, st5, fr5⟩ => ?_)
    have I5' := I5.pinned (stat fr5) (T.obj _ _ st5)
    refine wpAny_passesOwn hp (thn (hg _ s5 σ3 H5 x u _ I5' r5 (step x H5 y5)) fun _ s6 ⟨σ6, H6, I6, q6⟩ => ?_)
    refine wpAny_passesOwn hp (thn (hb _ s6 σ6 H6 _ I6 q6) fun f s7 q7 => ?_)
    have again : ∀ {σ7 : St} {H7 : Hp}, Inv X (pins ++ pinsAt fp s5.heap) σ7 H7 s7 → N σ7 H7 → ∃ m, m < n ∧ ∃ i σ' H', Inv X pins σ' H' s7 ∧ tn i s7.heap ∧ (∀ b ∈ fp, H' b = none) ∧ W i m σ' H' := fun {σ7 H7} I7 n7 => by
      obtain ⟨m', hm, w7⟩ := hN σ7 H7 n7
      refine ⟨m', hm, i + 1, σ7, H7, I7.unpinned, T.keep _ _ _ st5 fun b hb o e => (I7.pin (b, o) (List.mem_append_right _ (List.mem_append_right _ (mem_pinsAt hb e)))).1, fun b hb => ?_, w7⟩
      obtain ⟨o, e, d⟩ := T.obj _ _ st5 b hb
      exact (I7.pin (b, o) (List.mem_append_right _ (List.mem_append_right _ (mem_pinsAt hb e)))).2.1
    cases f with
    | next => obtain ⟨σ7, H7, I7, n7⟩ := q7; exact again I7 n7
    | cont => obtain ⟨σ7, H7, I7, n7⟩ := q7; exact again I7 n7
    | brk => obtain ⟨σ7, H7, I7, q7⟩ := q7; exact ⟨σ7, H7, I7.unpinned, q7⟩
    | ret v => obtain ⟨x7, σ7, H7, I7, r7, q7⟩ := q7; exact ⟨x7, σ7, H7, I7.unpinned, r7, q7⟩
end

/-! ### the forms one uses -/
/-- over a list that the body leaves as it is -/
theorem for_list {K : PySem.W.Frag} {a : Addr} {xs : List V} {g : TG} {tb : TS} {D : Ends} {σ : St} {H : Hp} (Pv : Nat → St → Hp → Prop) (h0 : Pv 0 σ H) (hl : ∀ i σ H, i ≤ xs.length → Pv i σ H → SqL K H a xs)
    (hs : ∀ i x σ H, xs[i]? = some x → Pv i σ H → g x σ H fun σ2 H2 => tb { D with nx := Pv (i + 1), ct := Pv (i + 1), bk := D.nx } σ2 H2) (hd : ∀ σ H, Pv xs.length σ H → D.nx σ H) :
    ∃ W : Nat → Nat → St → Hp → Prop, (∃ m, W 0 m σ H) ∧ ∀ i m σ H, W i m σ H →
      ((Itl K a).stop i H ∧ D.nx σ H) ∨ ((Itl K a).go i H ∧ ∃ N : St → Hp → Prop, (∀ σ' H', N σ' H' → ∃ m', m' < m ∧ W (i + 1) m' σ' H') ∧ ∀ x H', (Itl K a).yld i H x H' → g x σ H' fun σ2 H2 => tb { D with nx := N, ct := N, bk := D.nx } σ2 H2) := by
  refine ⟨fun i m σ H => m = xs.length - i ∧ i ≤ xs.length ∧ Pv i σ H, ⟨xs.length, by simp, Nat.zero_le _, h0⟩, ?_⟩
  rintro i m σ H ⟨rfl, hi, p⟩
  have q := hl i σ H hi p
  by_cases hlt : i < xs.length
  · refine .inr ⟨⟨xs, xs[i], q, by simp [hlt]⟩, Pv (i + 1), fun σ' H' p' => ⟨xs.length - (i + 1), by omega, rfl, hlt, p'⟩, fun x H' y => ?_⟩
    obtain ⟨e, y⟩ := y
    subst e
    exact hs i x σ _ (y xs q) p
  · have e : i = xs.length := by omega
    subst e
    exact .inl ⟨⟨xs, q, Nat.le_refl _⟩, hd σ H p⟩
theorem for_range {lo : Int} {n : Nat} {g : TG} {tb : TS} {D : Ends} {σ : St} {H : Hp} (Pv : Nat → St → Hp → Prop) (h0 : Pv 0 σ H)
    (hs : ∀ i σ H, i < n → Pv i σ H → g (.int (lo + i)) σ H fun σ2 H2 => tb { D with nx := Pv (i + 1), ct := Pv (i + 1), bk := D.nx } σ2 H2) (hd : ∀ σ H, Pv n σ H → D.nx σ H) :
    ∃ W : Nat → Nat → St → Hp → Prop, (∃ m, W 0 m σ H) ∧ ∀ i m σ H, W i m σ H →
      ((Itr lo n).stop i H ∧ D.nx σ H) ∨ ((Itr lo n).go i H ∧ ∃ N : St → Hp → Prop, (∀ σ' H', N σ' H' → ∃ m', m' < m ∧ W (i + 1) m' σ' H') ∧ ∀ x H', (Itr lo n).yld i H x H' → g x σ H' fun σ2 H2 => tb { D with nx := N, ct := N, bk := D.nx } σ2 H2) := by
  refine ⟨fun i m σ H => m = n - i ∧ i ≤ n ∧ Pv i σ H, ⟨n, by simp, Nat.zero_le _, h0⟩, ?_⟩
  rintro i m σ H ⟨rfl, hi, p⟩
  by_cases hlt : i < n
  · refine .inr ⟨hlt, Pv (i + 1), fun σ' H' p' => ⟨n - (i + 1), by omega, rfl, hlt, p'⟩, fun x H' y => ?_⟩
    obtain ⟨e, y⟩ := y
    subst e y
    exact hs i σ _ hlt p
  · have e : i = n := by omega
    subst e
    exact .inl ⟨Nat.le_refl _, hd σ H p⟩
end L2

namespace L2
open PySem PySem.Spec PyProof.Rows

abbrev R2 := V → V → Hp → VK → Prop
/-- a two-place operation on values: f is binaryOp op, inplaceOp op or compareOp op -/
def OpR (X : Cx) (f : Value → Value → Sem Value) (r : R2) : Prop :=
  ∀ (pins : List (Addr × Obj)) (s : Shared) (σ : St) (H : Hp) (x y : V) (v u : Value) (Q : VK), Inv X pins σ H s → RelV x v → RelV y u → r x y H Q →
    wpAny (model X.prog X.w) X.A (f v u) (EP X pins σ Q) X.xe s
/-- a one-place operation -/
def UnR (X : Cx) (f : Value → Sem Value) (r : V → Hp → VK → Prop) : Prop :=
  ∀ (pins : List (Addr × Obj)) (s : Shared) (σ : St) (H : Hp) (x : V) (v : Value) (Q : VK), Inv X pins σ H s → RelV x v → r x H Q →
    wpAny (model X.prog X.w) X.A (f v) (EP X pins σ Q) X.xe s
/-- a call of a value that is known (a builtin, a type) with values -/
def CallR (X : Cx) (f : Value) (r : List V → Hp → VK → Prop) : Prop :=
  ∀ (pins : List (Addr × Obj)) (s : Shared) (σ : St) (H : Hp) (xs : List V) (us : List Value) (Q : VK), Inv X pins σ H s → Vals xs us → r xs H Q →
    wpAny (model X.prog X.w) X.A (call f us) (EP X pins σ Q) X.xe s

def tOp (r : R2) (ta tb : TE) : TE := fun σ H Q => ta σ H fun x H1 => tb σ H1 fun y H2 => r x y H2 Q
def tUn (r : V → Hp → VK → Prop) (ta : TE) : TE := fun σ H Q => ta σ H fun x H1 => r x H1 Q
/-- ints in, under C, and a value out -/
def rI (C : Int → Int → Prop) (g : Int → Int → V) : R2 := fun x y H Q => ∃ i j, x = .int i ∧ y = .int j ∧ C i j ∧ Q (g i j) H
def rI0 (g : Int → Int → V) : R2 := fun x y H Q => ∃ i j, x = .int i ∧ y = .int j ∧ Q (g i j) H
def rU (g : Int → V) : V → Hp → VK → Prop := fun x H Q => ∃ i, x = .int i ∧ Q (g i) H

section
variable {X : Cx} {a b c : Expr} {ta tb tc : TE} {pos : Pos}

theorem binT (ha : PE X a ta) (hb : PE X b tb) {pins : List (Addr × Obj)} {s : Shared} {σ : St} {H : Hp} {R : V → V → Hp → Prop} (I : Inv X pins σ H s)
    (h : ta σ H fun x H1 => tb σ H1 fun y H2 => R x y H2) {Q : Value → Shared → Prop} {f : Value → Value → Sem Value}
    (hf : ∀ v u s2 x y H2, Inv X pins σ H2 s2 → RelV x v → RelV y u → R x y H2 → wpAny (model X.prog X.w) X.A (f v u) Q X.xe s2) :
    wpAny (model X.prog X.w) X.A (eval a X.env) (fun v s₁ => wpAny (model X.prog X.w) X.A (eval b X.env) (fun u s₂ => wpAny (model X.prog X.w) X.A (f v u) Q X.xe s₂) X.xe s₁) X.xe s := by
  refine thn (ha pins s σ H _ I h) fun v s1 ⟨x, H1, I1, r1, q1⟩ => ?_
  refine thn (hb pins s1 σ H1 _ I1 q1) fun u s2 ⟨y, H2, I2, r2, q2⟩ => ?_
  exact hf v u s2 x y H2 I2 r1 r2 q2

theorem pe_op {op : Operator} {r : R2} (ho : OpR X (binaryOp op) r) (ha : PE X a ta) (hb : PE X b tb) : PE X (.BinOp a op b pos) (tOp r ta tb) := by
  intro pins s σ H Q I h
  exact wpAny_BinOp (binT ha hb I h fun v u s2 x y H2 I2 rx ry q => ho pins s2 σ H2 x y v u Q I2 rx ry q)
theorem pe_un {op : UnaryOp} {r : V → Hp → VK → Prop} (ho : UnR X (unaryOp op) r) (ha : PE X a ta) : PE X (.UnaryOp op a pos) (tUn r ta) := by
  intro pins s σ H Q I h
  exact UnaryOp_ (thn (ha pins s σ H _ I h) fun v s1 ⟨x, H1, I1, r1, q1⟩ => ho pins s1 σ H1 x v Q I1 r1 q1)

/-! ### ints -/
theorem opI {f : Value → Value → Sem Value} {C : Int → Int → Prop} {g : Int → Int → Int}
    (rule : ∀ (i j : Int) (t u : Tok) (s : Shared) (Q : Value → Shared → Prop) (E : Value → Shared → Prop), C i j → Q (.int (g i j) s.toks) { s with toks := s.toks + 1 } → wpAny (model X.prog X.w) X.A (f (.int i t) (.int j u)) Q E s) :
    OpR X f (rI C fun i j => .int (g i j)) := by
  intro pins s σ H x y v u Q I rx ry h
  obtain ⟨i, j, rfl, rfl, hc, q⟩ := h
  obtain ⟨t, rfl⟩ := rx
  obtain ⟨t', rfl⟩ := ry
  exact rule i j t t' s _ _ hc ⟨.int (g i j), H, I.tok _, ⟨_, rfl⟩, q⟩
theorem opI0 {f : Value → Value → Sem Value} {g : Int → Int → Int}
    (rule : ∀ (i j : Int) (t u : Tok) (s : Shared) (Q : Value → Shared → Prop) (E : Value → Shared → Prop), Q (.int (g i j) s.toks) { s with toks := s.toks + 1 } → wpAny (model X.prog X.w) X.A (f (.int i t) (.int j u)) Q E s) :
    OpR X f (rI0 fun i j => .int (g i j)) := by
  intro pins s σ H x y v u Q I rx ry h
  obtain ⟨i, j, rfl, rfl, q⟩ := h
  obtain ⟨t, rfl⟩ := rx
  obtain ⟨t', rfl⟩ := ry
  exact rule i j t t' s _ _ ⟨.int (g i j), H, I.tok _, ⟨_, rfl⟩, q⟩
theorem opB0 {f : Value → Value → Sem Value} {g : Int → Int → Bool}
    (rule : ∀ (i j : Int) (t u : Tok) (s : Shared) (Q : Value → Shared → Prop) (E : Value → Shared → Prop), Q (.bool (g i j)) s → wpAny (model X.prog X.w) X.A (f (.int i t) (.int j u)) Q E s) :
    OpR X f (rI0 fun i j => .bl (g i j)) := by
  intro pins s σ H x y v u Q I rx ry h
  obtain ⟨i, j, rfl, rfl, q⟩ := h
  obtain ⟨t, rfl⟩ := rx
  obtain ⟨t', rfl⟩ := ry
  exact rule i j t t' s _ _ ⟨.bl (g i j), H, I, rfl, q⟩

def CPow (i j : Int) : Prop := 0 ≤ j ∧ j ≤ 1000000 ∧ i.natAbs < 2 ^ 64
def CMul (i j : Int) : Prop := (-(2 ^ 64) < i ∧ i < 2 ^ 64) ∨ (-(2 ^ 64) < j ∧ j < 2 ^ 64)
theorem CMul.ok {i j : Int} (h : CMul i j) : IntMulOk i j := by
  rcases h with ⟨h1, h2⟩ | ⟨h1, h2⟩
  · exact .of_left (intBits_le_64 h1 h2)
  · exact .of_right (intBits_le_64 h1 h2)
theorem two_pow_nn (k : Nat) : (0 : Int) ≤ 2 ^ k := by
  rw [two_pow_cast]
  exact Int.natCast_nonneg _

theorem op_add : OpR X (binaryOp .Add) (rI0 fun i j => .int (i + j)) := opI0 fun _ _ _ _ _ _ _ q => add_int q
theorem op_sub : OpR X (binaryOp .Sub) (rI0 fun i j => .int (i - j)) := opI0 fun _ _ _ _ _ _ _ q => sub_int q
theorem op_mul : OpR X (binaryOp .Mult) (rI CMul fun i j => .int (i * j)) := opI fun _ _ _ _ _ _ _ hc q => mul_int q hc.ok
/-- % by a positive divisor of any size -/
theorem op_mod : OpR X (binaryOp .Mod) (rI (fun _ j => 0 < j) fun i j => .int (i % j)) := opI fun i j _ _ _ _ _ hc q => by
  have h1 : (0 : Int) < j := hc
  exact mod_int' (by omega) (by rw [Int.fmod_eq_emod_of_nonneg i (by omega)]; exact q)
theorem op_pow : OpR X (binaryOp .Pow) (rI CPow fun i j => .int (i ^ j.toNat)) := opI fun _ _ _ _ _ _ _ hc q => pow_int_small hc.1 hc.2.1 hc.2.2 q
theorem op_shl : OpR X (binaryOp .LShift) (rI CPow fun i j => .int (i * 2 ^ j.toNat)) := opI fun _ _ _ _ _ _ _ hc q => lshift_int_small hc.1 hc.2.1 hc.2.2 q
theorem op_shr : OpR X (binaryOp .RShift) (rI (fun _ j => 0 ≤ j) fun i j => .int (i / 2 ^ j.toNat)) := opI fun i j _ _ _ _ _ hc q =>
  rshift_int hc (by rw [Int.fdiv_eq_ediv_of_nonneg i (two_pow_nn _)]; exact q)
theorem op_and : OpR X (binaryOp .BitAnd) (rI0 fun i j => .int (Builtin.bitAnd i j)) := opI0 fun _ _ _ _ _ _ _ q => and_int q


theorem unI {f : Value → Sem Value} {g : Int → Int}
    (rule : ∀ (i : Int) (t : Tok) (s : Shared) (Q : Value → Shared → Prop) (E : Value → Shared → Prop), Q (.int (g i) s.toks) { s with toks := s.toks + 1 } → wpAny (model X.prog X.w) X.A (f (.int i t)) Q E s) :
    UnR X f (rU fun i => .int (g i)) := by
  intro pins s σ H x v Q I rx h
  obtain ⟨i, rfl, q⟩ := h
  obtain ⟨t, rfl⟩ := rx
  exact rule i t s _ _ ⟨.int (g i), H, I.tok _, ⟨_, rfl⟩, q⟩
theorem un_neg : UnR X (unaryOp .USub) (rU fun i => .int (-i)) := unI fun _ _ _ _ _ q => neg_int q

/-! ### bools among ints: n += (a < b) -/
end

/-! ### comparisons -/
/-- the scalars that == tells apart as data does -/
def scal : V → V → Bool
  | .non, .non => true | .non, .int _ => true | .int _, .non => true | .non, .bl _ => true | .bl _, .non => true | .non, .str _ => true | .str _, .non => true
  | .int _, .int _ => true | .bl _, .bl _ => true | .str _, .str _ => true | .byt _, .byt _ => true
  | .int _, .str _ => true | .str _, .int _ => true | .bl _, .str _ => true | .str _, .bl _ => true
  | _, _ => false
def rEq : R2 := fun x y H Q => scal x y = true ∧ Q (.bl (decide (x = y))) H
def rNe : R2 := fun x y H Q => scal x y = true ∧ Q (.bl (!decide (x = y))) H

theorem dec_int {i j : Int} : decide (V.int i = V.int j) = (i == j) := by
  rw [Bool.eq_iff_iff]
  simp
theorem dec_bl {i j : Bool} : decide (V.bl i = V.bl j) = (i == j) := by
  rw [Bool.eq_iff_iff]
  simp
theorem dec_str {i j : Str} : decide (V.str i = V.str j) = (i == j) := by
  rw [Bool.eq_iff_iff]
  simp
theorem dec_byt {i j : Array UInt8} : decide (V.byt i = V.byt j) = (i.toList == j.toList) := by
  rw [Bool.eq_iff_iff]
  cases i
  cases j
  simp

section
variable {X : Cx} {a b c : Expr} {ta tb tc : TE} {pos : Pos}
theorem fin_bl {pins : List (Addr × Obj)} {σ : St} {H : Hp} {s : Shared} {Q : VK} {k k' : Bool} (I : Inv X pins σ H s) (q : Q (.bl k) H) (e : k = k') : EP X pins σ Q (.bool k') s := by
  subst e
  exact ⟨.bl k, H, I, rfl, q⟩
theorem op_eq : OpR X (compareOp .Eq) rEq := by
  intro pins s σ H x y v u Q I rx ry h
  obtain ⟨hs, q⟩ := h
  cases x with
  | non =>
    cases rx
    cases y with
    | non => cases ry; exact PySem.EqNone.eq_none_none (fin_bl I q (by simp))
    | bl j => cases ry; exact PySem.EqNone.eq_none_bool (fin_bl I q (by simp))
    | int j => obtain ⟨t', rfl⟩ := ry; exact PySem.EqNone.eq_none_int (fin_bl I q (by simp))
    | str j => obtain ⟨t', rfl⟩ := ry; exact PySem.EqNone.eq_none_str (fin_bl I q (by simp))
    | _ => exact absurd (show false = true from hs) Bool.false_ne_true
  | bl i =>
    cases rx
    cases y with
    | non => cases ry; exact PySem.EqNone.eq_bool_none (fin_bl I q (by simp))
    | bl j => cases ry; exact eq_bool (fin_bl I q dec_bl)
    | str j => obtain ⟨t', rfl⟩ := ry; exact PySem.EqMixed.eq_bool_str (fin_bl I q (by simp))
    | _ => exact absurd (show false = true from hs) Bool.false_ne_true
  | int i =>
    obtain ⟨t, rfl⟩ := rx
    cases y with
    | non => cases ry; exact PySem.EqNone.eq_int_none (fin_bl I q (by simp))
    | int j => obtain ⟨t', rfl⟩ := ry; exact eq_int (fin_bl I q dec_int)
    | str j => obtain ⟨t', rfl⟩ := ry; exact PySem.EqMixed.eq_int_str (fin_bl I q (by simp))
    | _ => exact absurd (show false = true from hs) Bool.false_ne_true
  | str i =>
    obtain ⟨t, rfl⟩ := rx
    cases y with
    | non => cases ry; exact PySem.EqNone.eq_str_none (fin_bl I q (by simp))
    | bl j => cases ry; exact PySem.EqMixed.eq_str_bool (fin_bl I q (by simp))
    | int j => obtain ⟨t', rfl⟩ := ry; exact PySem.EqMixed.eq_str_int (fin_bl I q (by simp))
    | str j => obtain ⟨t', rfl⟩ := ry; exact eq_str (fin_bl I q dec_str)
    | _ => exact absurd (show false = true from hs) Bool.false_ne_true
  | byt i =>
    obtain ⟨t, rfl⟩ := rx
    cases y with
    | byt j => obtain ⟨t', rfl⟩ := ry; exact PySem.W.eq_bytes (fin_bl I q dec_byt)
    | _ => exact absurd (show false = true from hs) Bool.false_ne_true
  | _ => cases y <;> exact absurd (show false = true from hs) Bool.false_ne_true
theorem op_ne : OpR X (compareOp .NotEq) rNe := by
  intro pins s σ H x y v u Q I rx ry h
  obtain ⟨hs, q⟩ := h
  cases x with
  | non =>
    cases rx
    cases y with
    | non => cases ry; exact PySem.EqNone.ne_none_none (fin_bl I q (by simp))
    | bl j => cases ry; exact PySem.EqNone.ne_none_bool (fin_bl I q (by simp))
    | int j => obtain ⟨t', rfl⟩ := ry; exact PySem.EqNone.ne_none_int (fin_bl I q (by simp))
    | str j => obtain ⟨t', rfl⟩ := ry; exact PySem.EqNone.ne_none_str (fin_bl I q (by simp))
    | _ => exact absurd (show false = true from hs) Bool.false_ne_true
  | bl i =>
    cases rx
    cases y with
    | non => cases ry; exact PySem.EqNone.ne_bool_none (fin_bl I q (by simp))
    | bl j => cases ry; exact ne_bool (fin_bl I q (congrArg not dec_bl))
    | str j => obtain ⟨t', rfl⟩ := ry; exact PySem.EqMixed.ne_bool_str (fin_bl I q (by simp))
    | _ => exact absurd (show false = true from hs) Bool.false_ne_true
  | int i =>
    obtain ⟨t, rfl⟩ := rx
    cases y with
    | non => cases ry; exact PySem.EqNone.ne_int_none (fin_bl I q (by simp))
    | int j => obtain ⟨t', rfl⟩ := ry; exact ne_int (fin_bl I q (congrArg not dec_int))
    | str j => obtain ⟨t', rfl⟩ := ry; exact PySem.EqMixed.ne_int_str (fin_bl I q (by simp))
    | _ => exact absurd (show false = true from hs) Bool.false_ne_true
  | str i =>
    obtain ⟨t, rfl⟩ := rx
    cases y with
    | non => cases ry; exact PySem.EqNone.ne_str_none (fin_bl I q (by simp))
    | bl j => cases ry; exact PySem.EqMixed.ne_str_bool (fin_bl I q (by simp))
    | int j => obtain ⟨t', rfl⟩ := ry; exact PySem.EqMixed.ne_str_int (fin_bl I q (by simp))
    | str j => obtain ⟨t', rfl⟩ := ry; exact ne_str (fin_bl I q (congrArg not dec_str))
    | _ => exact absurd (show false = true from hs) Bool.false_ne_true
  | byt i =>
    obtain ⟨t, rfl⟩ := rx
    cases y with
    | byt j => obtain ⟨t', rfl⟩ := ry; exact PySem.W.ne_bytes (fin_bl I q (congrArg not dec_byt))
    | _ => exact absurd (show false = true from hs) Bool.false_ne_true
  | _ => cases y <;> exact absurd (show false = true from hs) Bool.false_ne_true

theorem op_lt : OpR X (compareOp .Lt) (rI0 fun i j => .bl (decide (i < j))) := opB0 fun _ _ _ _ _ _ _ q => lt_int q
theorem op_ge : OpR X (compareOp .GtE) (rI0 fun i j => .bl (decide (j ≤ i))) := opB0 fun _ _ _ _ _ _ _ q => ge_int q




theorem nomark (b : Expr) {op : CmpOp} (h : op ≠ .In := by decide) (h2 : op ≠ .NotIn := by decide) : behindInMarks op b = false := by
  have e1 : (op == CmpOp.In) = false := by cases op <;> first | rfl | exact absurd rfl h
  have e2 : (op == CmpOp.NotIn) = false := by cases op <;> first | rfl | exact absurd rfl h2
  cases b <;> simp [behindInMarks, e1, e2]
/-- a comparison as a value; hm: nomark b, or (for in, not in) by with_unfolding_all rfl -/
theorem pe_cmpR {op : CmpOp} {r : R2} (ho : OpR X (compareOp op) r) (ha : PE X a ta) (hb : PE X b tb) (hm : behindInMarks op b = false) : PE X (.Compare a [op] [b] pos) (tOp r ta tb) := by
  intro pins s σ H Q I h
  exact wpAny_Compare1 (binT ha hb I h fun v u s2 x y H2 I2 rx ry q => ho pins s2 σ H2 x y v u Q I2 rx ry q) hm
/-- a reading of a value as a test -/
def tTest (t : TE) : TT := fun σ H Q => t σ H fun x H' => ∃ k, x = .bl k ∧ Q k H'
theorem pt_cmpR {op : CmpOp} {r : R2} (ho : OpR X (compareOp op) r) (ha : PE X a ta) (hb : PE X b tb) (hm : behindInMarks op b = false) : PT X (.Compare a [op] [b] pos) (tTest (tOp r ta tb)) := by
  intro pins s σ H Q I h
  refine wpAny_isTrue_Compare1 (thn (ha pins s σ H _ I h) fun v s1 ⟨x, H1, I1, r1, q1⟩ => thn (hb pins s1 σ H1 _ I1 q1) fun u s2 ⟨y, H2, I2, r2, q2⟩ =>
    thn (ho pins s2 σ H2 x y v u _ I2 r1 r2 q2) fun c s3 ⟨z, H3, I3, r3, k, e, q3⟩ => ?_) hm
  subst e
  cases r3
  exact wpAny_truthy_bool ⟨H3, I3, q3⟩

/-! ### truth -/
theorem line63 : (sizeLine : Nat) < 2 ^ 63 := by rw [sizeLine_eq]; decide

/-! ### strs and bytes -/


/-! ### scalar builtins, by CallR -/
theorem vals1 {x : V} {us : List Value} (r : Vals [x] us) : ∃ u, us = [u] ∧ RelV x u := by
  cases r with
  | cons r1 r2 => cases r2; exact ⟨_, rfl, r1⟩
theorem vals2 {x y : V} {us : List Value} (r : Vals [x, y] us) : ∃ u w', us = [u, w'] ∧ RelV x u ∧ RelV y w' := by
  cases r with
  | cons r1 r2 =>
    cases r2 with
    | cons r3 r4 => cases r4; exact ⟨_, _, rfl, r1, r3⟩
theorem call_max2 (hc : X.calm = true) : CallR X (.builtin "max") (fun xs H Q => ∃ i j, xs = [.int i, .int j] ∧ Q (.int (if j > i then j else i)) H) := by
  intro pins s σ H xs us Q I r h
  obtain ⟨i, j, rfl, q⟩ := h
  obtain ⟨u, w', rfl, ⟨t, rfl⟩, ⟨t', rfl⟩⟩ := vals2 r
  refine max_two_ints (I.ok.hd hc) fun h' tk k => ⟨_, H, I.kept k, ?_, q⟩
  by_cases hj : j > i
  · rw [if_pos hj, if_pos hj]; exact ⟨_, rfl⟩
  · rw [if_neg hj, if_neg hj]; exact ⟨_, rfl⟩
theorem call_min2 (hc : X.calm = true) : CallR X (.builtin "min") (fun xs H Q => ∃ i j, xs = [.int i, .int j] ∧ Q (.int (if j < i then j else i)) H) := by
  intro pins s σ H xs us Q I r h
  obtain ⟨i, j, rfl, q⟩ := h
  obtain ⟨u, w', rfl, ⟨t, rfl⟩, ⟨t', rfl⟩⟩ := vals2 r
  refine min_two_ints (I.ok.hd hc) fun h' tk k => ⟨_, H, I.kept k, ?_, q⟩
  by_cases hj : j < i
  · rw [if_pos hj, if_pos hj]; exact ⟨_, rfl⟩
  · rw [if_neg hj, if_neg hj]; exact ⟨_, rfl⟩
theorem call_str_int : CallR X (.type "str") (fun xs H Q => ∃ i, xs = [.int i] ∧ i.natAbs.log2 < 1920 ∧ Q (.str (toString i)) H) := by
  intro pins s σ H xs us Q I r h
  obtain ⟨i, rfl, hz, q⟩ := h
  obtain ⟨u, rfl, t, rfl⟩ := vals1 r
  exact PySem.P.str_of_int hz ⟨.str _, H, I.tok _, ⟨_, rfl⟩, q⟩
end
end L2

namespace L2
open PySem PySem.Spec PyProof.Rows

/-! ### an instance, its attributes a map -/
structure ObjM (h : Heap) (x dx C : Addr) (mA : Str → Option Value) : Prop where
  obj : h.get? x = some (PySem.W.instObj C dx)
  ns : h.Ns1 dx mA
  ne : dx ≠ x

theorem lookIn_ns {h : Heap} {dx : Addr} {mA : Str → Option Value} (n : h.Ns1 dx mA) : ∃ od, h.get? dx = some od ∧ ∀ name, PySem.W.lookIn name od = some (mA name) := by
  obtain ⟨o, es, ep, ho, hd, hk, _, hm⟩ := n
  refine ⟨o, ho, fun name => ?_⟩
  have e := hm name
  unfold nsFind findBy at e
  rw [← Array.find?_toList] at e
  unfold PySem.W.lookIn
  rw [hd]
  dsimp only
  split
  · rename_i y q
    rw [q] at e
    exact congrArg some e
  · rename_i q
    rw [q] at e
    have a : es.toList.any (·.refKey) = false := by
      rw [List.any_eq_false]
      intro y hy
      obtain ⟨z, t, hkey⟩ := hk y (Array.mem_toList_iff.mp hy)
      simp [DictEntry.refKey, hkey]
    have a' : ¬ es.toList.any (·.refKey) = true := by rw [a]; exact Bool.false_ne_true
    rw [if_neg a']
    exact congrArg some e

theorem ObjM.look {h : Heap} {x dx C : Addr} {mA : Str → Option Value} (I : ObjM h x dx C mA) : ∃ od, PySem.W.InstAt h x (PySem.W.instObj C dx) C (some od) ∧ ∀ name, PySem.W.lookIn name od = some (mA name) :=
  let ⟨od, ho, hl⟩ := lookIn_ns I.ns
  ⟨od, ⟨I.obj, rfl, rfl, ho⟩, hl⟩

section
variable {prog : Program} {w : World} {A : Around} {E : Value → Shared → Prop} {s : Shared} {K : PySem.W.Frag} {x dx C f : Addr} {mA : Str → Option Value} {name : Str} {v : Value}





end

/-! ### the attributes as a list of pairs -/

theorem RelO.some_of {v : V} {o : Option Value} (r : RelO (some v) o) : ∃ u, o = some u ∧ RelV v u := by
  cases o with
  | none => exact (show False from r).elim
  | some u => exact ⟨u, rfl, r⟩

section
variable {P : Program} {w : World} {H H' : Hp} {h h' : Heap} {a C dx : Addr} {fs fs' : List (Str × V)}
theorem ins_get (hok : HOk P w H h) (e : H a = some (.ins C dx fs)) : ∃ mA, ObjM h a dx C mA ∧ (∀ f, RelO (fs.lookup f) (mA f)) ∧ PySem.Within mA (fs.map (·.1)) ∧ fs.length ≤ 1000 ∧ H dx = some (.own a) := by
  obtain ⟨d, z, ne, ob, mA, n, r, q⟩ := (show ObjOk P w H h a (.ins C dx fs) from hok a _ e)
  exact ⟨mA, ⟨ob, n, ne⟩, r, q, z, d⟩
end

/-! ### what of the text a class must have -/
structure Cls (K : PySem.W.Frag) (C : Addr) : Prop where
  pg : PySem.W.plainGet K C Str.empty = true
  hd : PySem.W.hasDictIn K C = true
  po : PySem.W.plainOver K C = true
  sa : PySem.W.findIn K (.ref C) "__setattr__" = some (some (.builtin "object.__setattr__"))
theorem Cls.get {K : PySem.W.Frag} {C : Addr} (c : Cls K C) (f : Str) : PySem.W.plainGet K C f = true := c.pg

section
variable {X : Cx} {pins : List (Addr × Obj)} {σ : St} {H : Hp} {s : Shared} {a C dx : Addr} {fs : List (Str × V)} {f : Str} {v : V} {A : Around} {E : Value → Shared → Prop}






end

/-! ### readings and rules -/

section
variable {X : Cx} {o e value : Expr} {f : Str} {pos pos' tpos : Pos} {ta tv : TE}

end

/-! ### isinstance -/
section
variable {X : Cx} {pins : List (Addr × Obj)} {σ : St} {H : Hp} {s : Shared} {A : Around} {E : Value → Shared → Prop} {Q : Value → Shared → Prop} {c : Value} {b : Bool}
/-- the type of a value, as the fragment's deciders take it; for an instance its class -/
inductive TyOf (K : PySem.W.Frag) (H : Hp) : V → Value → Prop where
  | non : TyOf K H .non (.type "NoneType")
  | bl (x : Bool) : TyOf K H (.bl x) (.type "bool")
  | int (i : Int) : TyOf K H (.int i) (.type "int")
  | str (x : Str) : TyOf K H (.str x) (.type "str")
  | flt (x : UInt64) : TyOf K H (.flt x) (.type "float")
  | lst {a : Addr} {xs : List V} (e : H a = some (.lst xs)) : TyOf K H (.ref a) (.type "list")
  | frz {a : Addr} {o : Obj} {xs : List V} (e : H a = some (.frz o (.lst xs))) : TyOf K H (.ref a) (.type "list")
  | tup {a : Addr} {xs : List V} (e : H a = some (.tup xs)) : TyOf K H (.ref a) (.type "tuple")
  | dK {a : Addr} {kvs : List (Key × V)} (e : H a = some (.dK kvs)) : TyOf K H (.ref a) (.type "dict")
  | dT {a : Addr} {kvs : List (List Key × V)} (e : H a = some (.dT kvs)) : TyOf K H (.ref a) (.type "dict")
  | ins {a C dx : Addr} {fs : List (Str × V)} (e : H a = some (.ins C dx fs)) (cl : Cls K C) (ha : PySem.W.findIn K (.ref C) "__class__" = some (some (.builtin "object.__class__")))
      (hn : PySem.W.specialIn K (.builtin "object.__class__") "__get__" = some (some (.builtin "getset_descriptor.__get__"))) (htk : PySem.W.takesIn K (.builtin "object.__class__") = some true)
      (hm : PySem.W.mroIn K C (.type "object") = some true) : TyOf K H (.ref a) (.ref C)
/-- isinstance(x, c) for one class c, a built-in or an own one: kitOne's answer -/
theorem isinst_ok {x : V} {u t : Value} (I : Inv X pins σ H s) (rx : RelV x u) (ty : TyOf X.K H x t) (e : PySem.W.kitOne X.K t c = some b) (h : ∀ tk, Q (.bool b) { s with toks := tk }) :
    wpAny (model X.prog X.w) A (call (.builtin "isinstance") [u, c]) Q E s := by
  cases ty with
  | non => cases (show u = Value.none from rx); exact PySem.W.kia_one PySem.W.kitx_none I.kIn True.intro e (fun z => nomatch z) h
  | bl y => cases (show u = Value.bool y from rx); exact PySem.W.kia_one PySem.W.kitx_bool I.kIn True.intro e (fun z => nomatch z) h
  | int i => obtain ⟨t, q⟩ := (show ∃ t, u = Value.int i t from rx); cases q; exact PySem.W.kia_one PySem.W.kitx_int I.kIn True.intro e (fun z => nomatch z) h
  | str y => obtain ⟨t, q⟩ := (show ∃ t, u = Value.str y t from rx); cases q; exact PySem.W.kia_one PySem.W.kitx_str I.kIn True.intro e (fun z => nomatch z) h
  | flt y => obtain ⟨t, q⟩ := (show ∃ t, u = Value.float y t from rx); cases q; exact PySem.W.kia_one PySem.W.kitx_float I.kIn True.intro e (fun z => nomatch z) h
  | @lst a xs ea =>
    cases (show u = Value.ref a from rx)
    obtain ⟨_, _, n, _, h1⟩ := (show ObjOk X.prog X.w H s.heap a (.lst xs) from I.hok a _ ea)
    exact PySem.W.kia_one PySem.W.kitx_list I.kIn ⟨_, h1, rfl⟩ e (fun z => nomatch z) h
  | @frz a ob xs ea =>
    cases (show u = Value.ref a from rx)
    obtain ⟨_, _, _, n, _, h1⟩ := (show ObjOk X.prog X.w H s.heap a (.frz ob (.lst xs)) from I.hok a _ ea)
    exact PySem.W.kia_one PySem.W.kitx_list I.kIn ⟨_, h1, rfl⟩ e (fun z => nomatch z) h
  | @tup a xs ea =>
    cases (show u = Value.ref a from rx)
    obtain ⟨_, _, _, p⟩ := (show ObjOk X.prog X.w H s.heap a (.tup xs) from I.hok a _ ea)
    obtain ⟨o, h1, h2, _⟩ := p.isTup
    exact PySem.W.kia_one PySem.W.kitx_tuple I.kIn ⟨o, h1, h2⟩ e (fun z => nomatch z) h
  | @dK a kvs ea =>
    cases (show u = Value.ref a from rx)
    obtain ⟨_, _, vs, _, p⟩ := (show ObjOk X.prog X.w H s.heap a (.dK kvs) from I.hok a _ ea)
    obtain ⟨o, es, ep, h1, h2, _⟩ := p
    exact PySem.W.kia_one PySem.W.kitx_dict I.kIn ⟨o, h1, h2.1⟩ e (fun z => nomatch z) h
  | @dT a kvs ea =>
    cases (show u = Value.ref a from rx)
    obtain ⟨_, _, xs, _, o, es, ep, h1, h2, _⟩ := (show ObjOk X.prog X.w H s.heap a (.dT kvs) from I.hok a _ ea)
    exact PySem.W.kia_one PySem.W.kitx_dict I.kIn ⟨o, h1, h2.1⟩ e (fun z => nomatch z) h
  | @ins a C dx fs ea cl ha hn htk hm =>
    cases (show u = Value.ref a from rx)
    obtain ⟨mA, O, _⟩ := ins_get I.hok ea
    obtain ⟨od, J, _⟩ := O.look
    exact PySem.W.kia_one (PySem.W.kitx_own (cl.get _) cl.hd ha hn htk hm) I.kIn J e (fun z => nomatch z) h
end
end L2

namespace L2
open PySem PySem.Spec PyProof.Rows

/-! ### room -/
structure Room (k : Nat) (A : Around) : Prop where
  hd : A.handled = none
  dp : A.depth + 3 * k + 5 < recursionLimit
  un : A.units + 16 * k + 200 < cLine
theorem Room.mono {j k : Nat} {A : Around} (r : Room k A) (h : j ≤ k) : Room j A := ⟨r.hd, by have := r.dp; omega, by have := r.un; omega⟩
theorem Room.deeper {k : Nat} {A : Around} (r : Room (k + 1) A) (env : Env) : Room k (A.deeper env) :=
  ⟨r.hd, by have := r.dp; show A.depth + 1 + 3 * k + 5 < _; omega, by have := r.un; show A.units + 3 + 16 * k + 200 < _; omega⟩
theorem Room.depth {k : Nat} {A : Around} (r : Room k A) : A.depth < recursionLimit := by have := r.dp; omega
theorem Room.units {k : Nat} {A : Around} (r : Room k A) : A.units + 64 < cLine := by have := r.un; omega

/-! ### argument lists and displays -/
def tNil : TA := fun _ H Q => Q [] H
def tCons (ta : TE) (tr : TA) : TA := fun σ H Q => ta σ H fun x H1 => tr σ H1 fun xs H2 => Q (x :: xs) H2
section
variable {X : Cx} {e : Expr} {es : List Expr} {te : TE} {t : TA} {pos : Pos}
theorem pa_nil : PA X [] tNil := fun _ _ _ _ H Q I h => Calls.spliced_nil ⟨[], H, I, .nil, h⟩
theorem pa_cons (ha : PE X e te) (hr : PA X es t) (hs : starEach (e :: es) X.env = (false, eval e X.env) :: starEach es X.env := by rfl) : PA X (e :: es) (tCons te t) := by
  intro pos pins s σ H Q I h
  rw [hs]
  show wpAny _ _ (spliced ((false, eval e X.env) :: backTo pos (starEach es X.env))) _ _ s
  refine Calls.spliced_cons (thn (ha pins s σ H _ I h) fun u s1 ⟨x, H1, I1, r1, q1⟩ => ?_)
  exact thn (hr pos pins s1 σ H1 _ I1 q1) fun us s2 ⟨xs, H2, I2, r2, q2⟩ => ⟨x :: xs, H2, I2, .cons r1 r2, q2⟩

def tLst (t : TA) : TE := fun σ H Q => t σ H fun xs H1 => xs.length ≤ sizeLine ∧ ∀ p, H1 p = none → Q (.ref p) (upd H1 p (.lst xs))
theorem pe_lst (h : PA X es t) : PE X (.List es pos) (tLst t) := by
  intro pins s σ H Q I hq
  refine wpAny_List_spliced (thn (h pos pins s σ H _ I hq) fun us s1 ⟨xs, H1, I1, r, z, q⟩ => ⟨by rw [← r.length]; exact z, ?_⟩)
  have hf : H1 s1.heap.objs.size = none := I1.hok.fresh (Nat.le_refl _)
  refine ⟨.ref s1.heap.objs.size, upd H1 s1.heap.objs.size (.lst xs), I1.laid (t' := s1.toks) (fun b u e => Heap.get?_push_of_some _ e) (Nat.le_refl _) ?_, rfl, q _ hf⟩
  exact ⟨z, us, 0, r, Heap.get?_push_size _ rfl⟩
end

/-! ### what a def promises -/
/-- a def's promise: the bound arguments in the parameters' order, the heap, the wanted end, the wanted exception -/
abbrev Sp := List V → Hp → VK → XK → Prop
/-- how an exception lies behind a call (file 08 gives it): the callers' frames, abstract heap and state ahead of the call, the wish, the exception, the state -/
abbrev CXT := List Env → Hp → Shared → XK → Value → Shared → Prop

/-- the state at a call -/
structure Env0 (P : Program) (w : World) (K : PySem.W.Frag) (mg : Str → Option Value) (base : Heap) (A : Around) (outer : List Env) (s : Shared) (H : Hp) : Prop where
  frames : A.frames = some outer
  mod : Mod K mg base
  bs : ∀ b o, base.get? b = some o → s.heap.get? b = some o ∧ H b = none
  bsz : base.objs.size ≤ s.heap.objs.size
  funs : s.heap.FunFrames base outer
  frf : ∀ b ∈ frs outer, H b = none
  hok : HOk P w H s.heap
  bare : AllBare s.gens
/-- a call's end -/
def CE (outer : List Env) (P : Program) (w : World) (H : Hp) (s : Shared) (Q : VK) (u : Value) (s' : Shared) : Prop :=
  ∃ v H', s'.os = s.os ∧ AllBare s'.gens ∧ Un (frs outer) [] H H' s.heap s'.heap ∧ HOk P w H' s'.heap ∧ RelV v u ∧ Q v H'
def CR (CX : CXT) (outer : List Env) (P : Program) (w : World) (H : Hp) (s : Shared) (Q : VK) (E : XK) (r : Result) (s' : Shared) : Prop :=
  match r with
  | .ok (.ret u) => CE outer P w H s Q u s'
  | .ok _ => False
  | .error e => CX outer H s E e s'
structure FnOk (P : Program) (w : World) (K : PySem.W.Frag) (mg : Str → Option Value) (base : Heap) (CX : CXT) (k : Nat) (f : Addr) (fd : FuncData) (ps : List Str) (sp : Sp) : Prop where
  len : ∀ vs H Q E, sp vs H Q E → vs.length = ps.length
  run : ∀ (A : Around) (outer : List Env) (s : Shared) (H : Hp) (args : Args) (us : List Value) (vs : List V) (Q : VK) (E : XK), Room k A → Env0 P w K mg base A outer s H → BindsTo s fd args (ps.zip us) → Vals vs us → sp vs H Q E →
    codeAny (model P w) A (.call (.ref f) args) (CR CX outer P w H s Q E) s


section
variable {X : Cx} {pins : List (Addr × Obj)} {σ : St} {H : Hp} {s s' : Shared}
/-- from a body: what a callee wants -/
theorem Inv.env0 (I : Inv X pins σ H s) : Env0 X.prog X.w X.K X.mg X.base X.A X.stack s H :=
  ⟨I.ok.frames, I.ok.mod, I.bs, Nat.le_trans I.ok.bsz I.sz, I.stack, I.stkFree, I.hok, I.bare⟩
/-- behind a call -/
theorem Inv.after {Q : VK} {u : Value} (I : Inv X pins σ H s) (h : CE X.stack X.prog X.w H s Q u s') : EP X pins σ Q u s' := by
  obtain ⟨v, H', os, bare, un, hok, r, q⟩ := h
  obtain ⟨hh, g, d, t, os'⟩ := s'
  obtain rfl : os' = s.os := os
  exact ⟨v, H', I.call (h' := hh) (g' := g) (d' := d) (t' := t) (ch := []) un hok bare (fun b z => absurd z (by simp)), r, q⟩
end

/-! ### calls -/
/-- f(..): the written arguments, then the defaults dvs; E: what is wanted of an exception -/
def tCall (sp : Sp) (dvs : List V) (E : XK) (t : TA) : TE := fun σ H Q => t σ H fun vs H1 => sp (vs ++ dvs) H1 Q E

/-- how the parameters are bound: us the positional arguments, kw the keywords' values by name, ds the defaults that fill up -/
def Binds (K : PySem.W.Frag) (fd : FuncData) (ps : List Str) (ds : List Value) : Prop :=
  ∀ (s : Shared) (us : List Value), K.In s.heap → (us ++ ds).length = ps.length → BindsTo s fd ⟨us, []⟩ (ps.zip (us ++ ds))
/-- every parameter is given -/
theorem Binds.all {K : PySem.W.Frag} {fd : FuncData} {ps : List Str} (h : ∀ us : List Value, us.length = ps.length → bindArgs fd ⟨us, []⟩ = pure (ps.zip us)) : Binds K fd ps [] := fun s us _ hl => by
  rw [List.append_nil] at hl ⊢
  exact .of_eq (h us hl)

/-- an exception of a callee reaches what this body wants of exceptions -/
def Passes (CX : CXT) (X : Cx) (E : XK) : Prop := ∀ (pins : List (Addr × Obj)) (σ : St) (H : Hp) (s : Shared) (e : Value) (s' : Shared), Inv X pins σ H s → CX X.stack H s E e s' → X.xe e s'

section
variable {X : Cx} {CX : CXT} {k : Nat} {f C : Addr} {fd : FuncData} {ps : List Str} {sp : Sp} {dvs : List V} {ds : List Value} {E : XK} {x m : Str} {p pos apos : Pos} {e o : Expr} {es : List Expr} {ta : TE} {t : TA}

/-- the callee runs -/
theorem run_fn {pins : List (Addr × Obj)} {σ : St} {H : Hp} {s : Shared} {Q : VK} {us : List Value} {vs : List V} (F : FnOk X.prog X.w X.K X.mg X.base CX k f fd ps sp) (hr : Room k X.A) (hb : Binds X.K fd ps ds) (hd : Vals dvs ds) (hx : Passes CX X E)
    (I : Inv X pins σ H s) (r : Vals vs us) (h : sp (vs ++ dvs) H Q E) : wpAny (model X.prog X.w) X.A (call (.ref f) us) (EP X pins σ Q) X.xe s := by
  have r2 : Vals (vs ++ dvs) (us ++ ds) := r.append hd
  have hl : (us ++ ds).length = ps.length := by rw [← r2.length]; exact F.len _ _ _ _ h
  refine wpAny_call (codeAny_mono (F.run X.A X.stack s H ⟨us, []⟩ (us ++ ds) (vs ++ dvs) Q E hr I.env0 (hb s us I.kIn hl) r2 h) fun r s' hq => ?_)
  cases r with
  | error e => exact hx pins σ H s e s' I hq
  | ok fl =>
    cases fl with
    | ret u => exact I.after hq
    | next => exact False.elim hq
    | brk => exact False.elim hq
    | cont => exact False.elim hq

theorem pe_call (F : FnOk X.prog X.w X.K X.mg X.base CX k f fd ps sp) (hr : Room k X.A) (hg : Gl X x) (hm : X.mg x = some (.ref f)) (hk : PySem.W.keepIn X.K (.ref f) = true) (hb : Binds X.K fd ps ds) (hd : Vals dvs ds) (hx : Passes CX X E)
    (ha : PA X (e :: es) t) (hdb : (x == ("__debug__" : Str)) = false := by decide) (he : starEach (e :: es) X.env = (false, eval e X.env) :: starEach es X.env := by rfl) (hpl : (backTo pos (starEach es X.env)).any (·.1) = false := by rfl) :
    PE X (.Call (.Name x p) (e :: es) [] pos) (tCall sp dvs E t) := by
  intro pins s σ H Q I h
  refine wpAny_Call_Name_kw (ld_glob I hg hm ?_ hdb)
  refine PySem.W.callWith_K (h₀ := X.base) I.ok.mod.kin hk (thn (ha pos pins s σ H _ I h) fun us s1 ⟨vs, H1, I1, r, q⟩ => ⟨I1.kIn, ?_⟩) he hpl
  exact run_fn F hr hb hd hx I1 r q



end

/-! ### keywords -/
section
variable {X : Cx} {CX : CXT} {k : Nat} {f C : Addr} {fd : FuncData} {ps ks : List Str} {sp : Sp} {E : XK} {x m : Str} {p pos apos kpos : Pos} {e o : Expr} {es : List Expr} {kws : List Keyword} {te ta : TE} {t tk : TA} {nm : Option Str}

variable {g : List Value → List Value → List Value} {gV : List V → List V → List V}
end

/-! ### a def's body keeps its promise -/
/-- names: the parameters first -/
structure FnScope (N P : List Str) (sc : Scope) : Prop where
  kind : sc.kind = .function
  co : sc.isCoroutine = false
  gen : sc.isGenerator = false
  nd : N.Nodup
  pre : N.take P.length = P
  par : ∀ x ∈ P, sc.names.lookup x = some .local ∨ sc.names.lookup x = some .cell
  nofree : ∀ y ∈ sc.names, y.2 ≠ .free

theorem bindL_out {kindOf : Str → Option NameKind} {x : Str} : ∀ {binds : List (Str × Value)} {m : Str → Option Value}, (∀ v, (x, v) ∉ binds) → bindL kindOf binds m x = m x
  | [], _, _ => rfl
  | (n, v) :: r, m, h => by
    unfold bindL
    rw [bindL_out fun w hw => h w (List.mem_cons_of_mem _ hw)]
    split
    · have : x ≠ n := by rintro rfl; exact h v List.mem_cons_self
      simp [this]
    · rfl
theorem bindC_out {kindOf : Str → Option NameKind} {x : Str} : ∀ {binds : List (Str × Value)} {m : Str → Option Value}, (∀ v, (x, v) ∉ binds) → bindC kindOf binds m x = m x
  | [], _, _ => rfl
  | (n, v) :: r, m, h => by
    unfold bindC
    rw [bindC_out fun w hw => h w (List.mem_cons_of_mem _ hw)]
    split
    · rfl
    · have : x ≠ n := by rintro rfl; exact h v List.mem_cons_self
      simp [this]
theorem bindL_get {kindOf : Str → Option NameKind} {x : Str} {v : Value} : ∀ {P : List Str} {vs : List Value} {i : Nat} {m : Str → Option Value}, P.Nodup → P[i]? = some x → vs[i]? = some v → kindOf x = some .local →
    bindL kindOf (P.zip vs) m x = some v
  | [], _, _, _, _, h, _, _ => by simp at h
  | _ :: _, [], _, _, _, _, h, _ => by simp at h
  | p :: P, w :: vs, 0, m, nd, h1, h2, hk => by
    simp at h1 h2; subst h1; subst h2
    show bindL kindOf ((p, w) :: P.zip vs) m p = _
    unfold bindL
    rw [bindL_out fun v hv => (List.nodup_cons.mp nd).1 (List.of_mem_zip hv).1, if_pos hk]
    simp
  | p :: P, w :: vs, i + 1, m, nd, h1, h2, hk => by
    show bindL kindOf ((p, w) :: P.zip vs) m x = _
    unfold bindL
    exact bindL_get (i := i) (List.nodup_cons.mp nd).2 (by simpa using h1) (by simpa using h2) hk
theorem bindC_get {kindOf : Str → Option NameKind} {x : Str} {v : Value} : ∀ {P : List Str} {vs : List Value} {i : Nat} {m : Str → Option Value}, P.Nodup → P[i]? = some x → vs[i]? = some v → kindOf x ≠ some .local →
    bindC kindOf (P.zip vs) m x = some v
  | [], _, _, _, _, h, _, _ => by simp at h
  | _ :: _, [], _, _, _, _, h, _ => by simp at h
  | p :: P, w :: vs, 0, m, nd, h1, h2, hk => by
    simp at h1 h2; subst h1; subst h2
    show bindC kindOf ((p, w) :: P.zip vs) m p = _
    unfold bindC
    rw [bindC_out fun v hv => (List.nodup_cons.mp nd).1 (List.of_mem_zip hv).1, if_neg hk]
    simp
  | p :: P, w :: vs, i + 1, m, nd, h1, h2, hk => by
    show bindC kindOf ((p, w) :: P.zip vs) m x = _
    unfold bindC
    exact bindC_get (i := i) (List.nodup_cons.mp nd).2 (by simpa using h1) (by simpa using h2) hk

/-- the names' values at the entry -/
def start (N : List Str) (vs : List V) : St := vs.map some ++ List.replicate (N.length - vs.length) none

/-- the context of a def's body, at its entry; an exception leaves the frame, then lies as CX says -/
def cxOf (CX : CXT) (P : Program) (w : World) (K : PySem.W.Frag) (mg : Str → Option Value) (base : Heap) (N : List Str) (qual : Str) (scope : Scope) (f : Addr) (cd : Value) (A : Around) (outer : List Env) (s : Shared) (H : Hp) (E : XK) : Cx where
  prog := P
  w := w
  K := K
  mg := mg
  base := base
  A := A.deeper (envOfC qual scope s.heap.objs.size f cd)
  N := N
  s₀ := s
  H₀ := H
  env := envOfC qual scope s.heap.objs.size f cd
  outer := outer
  stack := envOfC qual scope s.heap.objs.size f cd :: outer
  ex := []
  calm := true
  fn := fun _ => true
  pn := []
  xe := fun e s' => wpAny (model P w) (A.deeper (envOfC qual scope s.heap.objs.size f cd)) (leaving (envOfC qual scope s.heap.objs.size f cd) e) (fun _ s'' => CX outer H s E e s'') (fun e' s'' => CX outer H s E e' s'') s'

theorem cell_has {sc : Scope} {n : Nat} {x : Str} (h : sc.names.lookup x = some .cell) : ∃ c, (cellsFrom n sc.names []).lookup x = some c := by
  have q := PySem.W.cellsFrom_some sc.names n [] (.inl h)
  exact Option.isSome_iff_exists.mp q

theorem inv_start {CX : CXT} {P : Program} {w : World} {K : PySem.W.Frag} {mg : Str → Option Value} {base : Heap} {N ps : List Str} {qual : Str} {scope : Scope} {f : Addr} {cd : Value} {A : Around} {outer : List Env} {s s1 : Shared} {H : Hp} {E : XK} {us : List Value} {vs : List V}
    (S : FnScope N ps scope) (hd : A.handled = none) (e0 : Env0 P w K mg base A outer s H) (hl : vs.length = ps.length) (r : Vals vs us)
    (x : InCallC s s.heap.objs.size (bindL (envOfC qual scope s.heap.objs.size f cd).kindOf (ps.zip us) fun _ => none) (cellsFrom (s.heap.objs.size + 1) scope.names []) (bindC (envOfC qual scope s.heap.objs.size f cd).kindOf (ps.zip us) fun _ => none) s1) :
    Inv (cxOf CX P w K mg base N qual scope f cd A outer s H E) [] (start N vs) H s1 := by
  have hpl : ps.length ≤ N.length := by have := congrArg List.length S.pre; rw [List.length_take] at this; omega
  obtain ⟨h1, tk, rfl, hk⟩ := x.done
  have noA : ∀ b : Addr, b ∉ (cxOf CX P w K mg base N qual scope f cd A outer s H E).ex := fun b z => absurd (show b ∈ ([] : List Addr) from z) (by simp)
  refine ⟨⟨e0.mod, S.kind, rfl, rfl, Nat.le_refl _, fun y z c h1 h2 => ?_, fun y hy => ?_, fun y c _ h => ?_, fun _ => hd, Around.frames_deeper e0.frames, .inr ⟨rfl, rfl⟩, fun b z => absurd z (noA b), e0.bs, e0.bsz, fun b _ _ => noA b, fun b z => absurd z (noA b), e0.funs, e0.frf⟩,
    rfl, e0.bare, Un.kept hk, ⟨_, x.toInCall.ns, fun i y v h1 h2 h3 => ?_⟩, fun y c h => ⟨_, x.cell y c h⟩, e0.hok.fresh (Nat.le_refl _), fun y c h => ?_, fun p hp => absurd (show p ∈ ([] : List (Addr × Obj)) from hp) (by simp), e0.hok.kept hk, ?_⟩
  · exact name_of_addr x.apart (PySem.mem_of_lookup h1) (PySem.mem_of_lookup h2)
  · have hy : scope.names.lookup y = some .cell ∨ scope.names.lookup y = some .free := hy
    rcases hy with hy | hy
    · exact cell_has hy
    · exact absurd rfl (S.nofree _ (PySem.mem_of_lookup hy))
  · exact Nat.le_of_lt (x.above y c (PySem.mem_of_lookup h))
  · have hi : i < vs.length := by
      unfold start at h2
      by_cases hi : i < vs.length
      · exact hi
      · rw [List.getElem?_append_right (by simpa using hi)] at h2
        rw [List.getElem?_replicate] at h2
        split at h2 <;> cases h2
    have ha : vs[i]? = some v := by
      unfold start at h2
      rw [List.getElem?_append_left (by simpa using hi), List.getElem?_map] at h2
      cases e : vs[i]? with
      | none => rw [e] at h2; cases h2
      | some a => rw [e] at h2; cases h2; rfl
    obtain ⟨u, hu, rv⟩ := r.get ha
    have hp : ps[i]? = some y := by
      rw [← S.pre, List.getElem?_take_of_lt (by omega)]; exact h1
    have ndP : ps.Nodup := by rw [← S.pre]; exact S.nd.sublist (List.take_sublist _ _)
    refine ⟨u, rv, ?_⟩
    rcases S.par y (List.mem_of_getElem? hp) with k | k
    · exact .inl ⟨k, bindL_get ndP hp hu k⟩
    · obtain ⟨c, e⟩ := cell_has (n := s.heap.objs.size + 1) k
      refine .inr ⟨.inl k, c, e, ?_⟩
      have q := x.cell y c e
      rw [bindC_get ndP hp hu (by show scope.names.lookup y ≠ _; rw [k]; decide)] at q
      exact q
  · exact e0.hok.fresh (Nat.le_of_lt (x.above y c (PySem.mem_of_lookup h)))
  · unfold start
    show _ = N.length
    rw [List.length_append, List.length_map, List.length_replicate]
    omega

/-- THE RULE: a def (or a method) of the text, by its body. The body's reading t is chosen for each entry; it is run at the parameters' values -/
theorem fn_of {CX : CXT} {P : Program} {w : World} {K : PySem.W.Frag} {mg : Str → Option Value} {base : Heap} {k : Nat} {f : Addr} {name qual : Str} {params : Arguments} {body : List Stmt} {scope : Scope} {dV kV doc pm cdv ct oc : Value} {an od : Option Addr}
    {osl : Array (Option Value)} {N ps : List Str} {sp : Sp} (lk : K.lookup f = some ⟨oc, od, .func (PySem.W.fnOf name qual params body scope dV kV doc pm an cdv ct), osl⟩) (hcd : PySem.W.codeIn K cdv qual = true) (S : FnScope N ps scope)
    (len : ∀ vs H Q E, sp vs H Q E → vs.length = ps.length)
    (hbody : ∀ (A : Around) (outer : List Env) (s : Shared) (H : Hp) (vs : List V) (Q : VK) (E : XK), Room k (A.deeper (envOfC qual scope s.heap.objs.size f cdv)) → sp vs H Q E →
      ∃ t, PSs (cxOf CX P w K mg base N qual scope f cdv A outer s H E) body t ∧ t { nx := fun _ H' => Q .non H', rt := Q } (start N vs) H) :
    FnOk P w K mg base CX (k + 1) f (PySem.W.fnOf name qual params body scope dV kV doc pm an cdv ct) ps sp := by
  refine ⟨len, fun A outer s H args us vs Q E hr e0 hb r hsp => ?_⟩
  have hl := len _ _ _ _ hsp
  have KX : K.In s.heap := e0.mod.kin.keeps fun b o e => (e0.bs b o e).1
  have lim : s.heap.NoLimit := e0.mod.nolimit.keeps fun b o e => (e0.bs b o e).1
  have hkind : ∀ y ∈ ps.zip us, scope.names.lookup y.1 = some .local ∨ (scope.names.lookup y.1 = some .cell ∧ ((cellsFrom (s.heap.objs.size + 1) scope.names []).lookup y.1).isSome = true) := fun ⟨n, v⟩ hy => by
    rcases S.par n (List.of_mem_zip hy).1 with q | q
    · exact .inl q
    · exact .inr ⟨q, PySem.W.cellsFrom_some _ _ _ (.inl q)⟩
  refine codeAny_call_function hr.depth (KX _ _ lk) rfl S.co S.gen rfl (PySem.W.codeRec_of KX hcd) (hb _ _ _ _ ?_)
  refine wpAny_newFunctionEnv_cells S.kind hkind fun env he s1 x => ?_
  subst he
  refine ⟨lim.keeps x.toInCall.keep, codeAny_func ?_⟩
  obtain ⟨t, ht, hq⟩ := hbody A outer s H vs Q E (hr.deeper _) hsp
  have I : Inv (cxOf CX P w K mg base N qual scope f cdv A outer s H E) [] (start N vs) H s1 := inv_start S hr.hd e0 hl r x
  refine wpAny_mono (ht [] s1 (start N vs) H _ I hq) (fun fl s' hs => ?_) fun e s' hs => hs
  have fin : ∀ {σ' : St} {H' : Hp} {v : V} {u : Value}, Inv (cxOf CX P w K mg base N qual scope f cdv A outer s H E) [] σ' H' s' → RelV v u → Q v H' → CE outer P w H s Q u s' :=
    fun {σ' H' v u} J rv q => ⟨v, H', J.os, J.bare, J.base, J.hok, rv, q⟩
  cases fl with
  | ret u =>
    obtain ⟨v, σ', H', J, rv, q⟩ := hs
    exact fin J rv q
  | next =>
    obtain ⟨σ', H', J, q⟩ := hs
    exact fin (v := V.non) (u := Value.none) J rfl q
  | brk =>
    obtain ⟨_, _, _, q⟩ := hs
    exact False.elim q
  | cont =>
    obtain ⟨_, _, _, q⟩ := hs
    exact False.elim q
end L2

namespace L2
open PySem PySem.Spec PyProof.Rows
section
variable {X : Cx} {x : Str} {p pos : Pos} {e : Expr} {es : List Expr} {t : TA} {id T : String} {r : List V → Hp → VK → Prop}

def tCB (r : List V → Hp → VK → Prop) (t : TA) : TE := fun σ H Q => t σ H fun vs H1 => r vs H1 Q
/-- f(e, ..), f a built-in function -/
theorem pe_callB (hc : CallR X (.builtin id) r) (hg : Gl X x) (hm : X.mg x = none) (hv : bootBuiltins x = some (.builtin id)) (ha : PA X (e :: es) t) (hn : x ≠ "__name__" := by decide) (hdb : (x == ("__debug__" : Str)) = false := by decide)
    (he : starEach (e :: es) X.env = (false, eval e X.env) :: starEach es X.env := by rfl) (hpl : (backTo pos (starEach es X.env)).any (·.1) = false := by rfl) : PE X (.Call (.Name x p) (e :: es) [] pos) (tCB r t) := by
  intro pins s σ H Q I h
  refine wpAny_Call_Name_kw (ld_blt I hg hm hv ?_ hn hdb)
  exact PyProof.Rows.callWith_builtin1 (thn (ha pos pins s σ H _ I h) fun us s1 ⟨vs, H1, I1, r1, q1⟩ => hc pins s1 σ H1 vs us Q I1 r1 q1) he hpl
/-- T(e, ..), T a built-in type -/
theorem pe_callTy (hc : CallR X (.type T) r) (hg : Gl X x) (hm : X.mg x = none) (hv : bootBuiltins x = some (.type T)) (ha : PA X (e :: es) t) (hn : x ≠ "__name__" := by decide) (hdb : (x == ("__debug__" : Str)) = false := by decide)
    (he : starEach (e :: es) X.env = (false, eval e X.env) :: starEach es X.env := by rfl) (hpl : (backTo pos (starEach es X.env)).any (·.1) = false := by rfl) : PE X (.Call (.Name x p) (e :: es) [] pos) (tCB r t) := by
  intro pins s σ H Q I h
  refine wpAny_Call_Name_kw (ld_blt I hg hm hv ?_ hn hdb)
  exact PyProof.Rows.callWith_type1 (thn (ha pos pins s σ H _ I h) fun us s1 ⟨vs, H1, I1, r1, q1⟩ => hc pins s1 σ H1 vs us Q I1 r1 q1) he hpl
end
end L2

namespace HT
open PySem PyProof.Rows



section
open PySem.SeqAt
open PySem.AutoSeq1 (wpAny_loadPart')
open PySem.MeetsSeq PySem.MeetsSeq2 PySem.MeetsSeq3

end

section
variable {prog : Program} {w : World} {A : Around} {E : Value → Shared → Prop} {s : Shared}


/-- t + u, t not empty -/
theorem cat_tup {t b : Addr} {vs ws : List Value} {Q : Value → Shared → Prop} (ht : IsTup s.heap t vs.toArray) (hb : IsTup s.heap b ws.toArray) (hv : vs ≠ [])
    (h1 : ws = [] → Q (.ref t) s) (h2 : ws ≠ [] → Q (.ref s.heap.objs.size) { s with heap := s.heap.push { cls := .type "tuple", data := .seq (vs ++ ws).toArray } })
    (hsz : vs.length + ws.length ≤ sizeLine) : wpAny (model prog w) A (binaryOp .Add (.ref t) (.ref b)) Q E s := by
  obtain ⟨⟨cls, dd, data, sl⟩, ho, hc, n, hd⟩ := id ht
  obtain ⟨⟨cls2, dd2, data2, sl2⟩, ho2, hc2, n2, hd2⟩ := id hb
  simp only at hc hd hc2 hd2
  subst hc hd hc2 hd2
  have e : vs.toArray ++ ws.toArray = (vs ++ ws).toArray := by simp
  by_cases hw : ws = []
  · exact concat_meets ⟨_, ho, rfl⟩ ⟨_, ho2, rfl⟩ noFill_tuple_add seq_tuple_add PySem.F.slot_tuple_add PySem.F.entry_tuple_add (PySem.F.args_tuple_add_2 _ _)
      (tuple_addW1 t b vs.toArray ws.toArray n n2 dd dd2 sl sl2 (by simpa using hv) (by simp [hw])) ⟨ho, ho2, h1 hw⟩
  · refine concat_meets ⟨_, ho, rfl⟩ ⟨_, ho2, rfl⟩ noFill_tuple_add seq_tuple_add PySem.F.slot_tuple_add PySem.F.entry_tuple_add (PySem.F.args_tuple_add_2 _ _)
      (tuple_addW2 t b vs.toArray ws.toArray n n2 dd dd2 sl sl2 (by simpa using hv) (by simpa using hw) (by rw [List.size_toArray, List.size_toArray]; exact hsz)) ⟨ho, ho2, ?_⟩
    rw [e]
    exact h2 hw

/-! ### t[a:b], not the whole -/
/-- a slice's bound as a place among n (d where it is left out) -/
def sIx (n d : Nat) : Option Int → Nat
  | none => d
  | some v => if v < 0 then (v + (n : Int)).toNat else min v.toNat n
theorem sIx_le (n d : Nat) (hd : d ≤ n) (o : Option Int) : sIx n d o ≤ n := by
  cases o with
  | none => exact hd
  | some v =>
    show (if v < 0 then (v + (n : Int)).toNat else min v.toNat n) ≤ n
    by_cases hv : v < 0
    · rw [if_pos hv]; omega
    · rw [if_neg hv]; exact Nat.min_le_right _ _
theorem clip_eq (v : Int) (n d : Nat) : (if v < 0 then max (v + (n : Int)) 0 else min v (n : Int)) = ((sIx n d (some v) : Nat) : Int) := by
  show (if v < 0 then max (v + (n : Int)) 0 else min v (n : Int)) = (((if v < 0 then (v + (n : Int)).toNat else min v.toNat n) : Nat) : Int)
  by_cases hv : v < 0
  · simp only [if_pos hv]; omega
  · simp only [if_neg hv]; omega
theorem adjust_gen (lo hi : Option Int) (n : Nat) : Builtin.Slice.sliceAdjust lo hi 1 (n : Int) = (((sIx n 0 lo : Nat) : Int), ((sIx n n hi : Nat) : Int)) := by
  have h1 : ¬ ((1 : Int) < 0) := by omega
  unfold Builtin.Slice.sliceAdjust
  simp only [h1, if_false]
  refine Prod.ext ?_ ?_
  · cases lo with
    | none => rfl
    | some v => exact clip_eq v n 0
  · cases hi with
    | none => rfl
    | some v => exact clip_eq v n n
theorem places_gen (i j : Nat) : Builtin.Slice.slicePlaces (i : Int) (j : Int) 1 = j - i := by
  unfold Builtin.Slice.slicePlaces
  have h1 : (1 : Int) > 0 := by omega
  simp only [h1, if_true, Int.ediv_one]
  split <;> omega
theorem slicePart_ {v : Value} {o : Option Int} {Q : Option Int → Shared → Prop} (p : IsPart v o) (h : Q o s) : wpAny (model prog w) A (Builtin.Slice.slicePartIndex v) Q E s := by
  cases p with
  | none => exact slicePart_none h
  | int i t => exact slicePart_int h
theorem sliceApplied_gen {sl : Addr} {vl vu : Value} {lo hi : Option Int} {n : Nat} {Q : Int × Int × Nat → Shared → Prop} (hs : s.heap.IsSliceOf sl vl vu .none) (pl : IsPart vl lo) (pu : IsPart vu hi)
    (h : Q (((sIx n 0 lo : Nat) : Int), 1, sIx n n hi - sIx n 0 lo) s) : wpAny (model prog w) A (Builtin.Slice.sliceApplied (.ref sl) (pure (n : Int))) Q E s := by
  obtain ⟨os, hos, hcs, hds⟩ := id hs
  unfold Builtin.Slice.sliceApplied Builtin.Slice.sliceFields
  refine wpAny_bind (wpAny_bind (wpAny_field hos hds (x := vl) rfl (wpAny_bind (wpAny_field hos hds (x := vu) rfl (wpAny_bind (wpAny_field hos hds (x := .none) rfl (wpAny_pure ?_)))))))
  refine wpAny_bind (slicePart_none ?_)
  show wpAny _ _ (if ((1 : Int) == 0) = true then _ else _) _ _ s
  rw [if_neg (by decide)]
  refine wpAny_bind (slicePart_ pl (wpAny_bind (slicePart_ pu (wpAny_bind (wpAny_pure ?_)))))
  show wpAny _ _ (match Builtin.Slice.sliceAdjust lo hi 1 (n : Int) with | (lo, hi) => pure (lo, (1 : Int), Builtin.Slice.slicePlaces lo hi 1)) _ _ s
  rw [adjust_gen lo hi n]
  show wpAny _ _ (pure (((sIx n 0 lo : Nat) : Int), (1 : Int), Builtin.Slice.slicePlaces ((sIx n 0 lo : Nat) : Int) ((sIx n n hi : Nat) : Int) 1)) _ _ s
  rw [places_gen]
  exact wpAny_pure h
theorem pick_gen (xs : Array Value) (i k : Nat) : ((List.range k).filterMap fun (m : Nat) => xs[((i : Int) + (m : Int) * 1).toNat]?).toArray = ((xs.toList.drop i).take k).toArray := by
  have e : (fun (m : Nat) => xs[((i : Int) + (m : Int) * 1).toNat]?) = fun m => xs[i + m]? := by
    funext m
    have : ((i : Int) + (m : Int) * 1).toNat = i + m := by omega
    rw [this]
  rw [e]
  have := pick_run xs i k
  rw [List.filterMap_map] at this
  have e2 : ((fun x => xs[x]?) ∘ fun x => i + x) = fun m => xs[i + m]? := rfl
  rw [e2] at this
  rw [this]

theorem getItem_tuple_cut {t sl : Addr} {items : Array Value} {vl vu : Value} {lo hi : Option Int} {Q : Value → Shared → Prop} (ht : IsTup s.heap t items) (hs : s.heap.IsSliceOf sl vl vu .none) (pl : IsPart vl lo) (pu : IsPart vu hi)
    (hw : ¬ (sIx items.size 0 lo = 0 ∧ sIx items.size items.size hi = items.size))
    (h : Q (.ref s.heap.objs.size) { s with heap := s.heap.push { cls := .type "tuple", data := .seq ((items.toList.drop (sIx items.size 0 lo)).take (sIx items.size items.size hi - sIx items.size 0 lo)).toArray } })
    (hsz : items.size ≤ sizeLine) : wpAny (model prog w) A (getItem (.ref t) (.ref sl)) Q E s := by
  have htake : sizeOk (.seq ((items.toList.drop (sIx items.size 0 lo)).take (sIx items.size items.size hi - sIx items.size 0 lo)).toArray) := by
    show ((items.toList.drop (sIx items.size 0 lo)).take (sIx items.size items.size hi - sIx items.size 0 lo)).toArray.size ≤ sizeLine
    rw [List.size_toArray, List.length_take, List.length_drop, Array.length_toList]
    omega
  have hj : sIx items.size items.size hi ≤ items.size := sIx_le _ _ (Nat.le_refl _) hi
  obtain ⟨os, hos, hcs, hds⟩ := id hs
  have hTs : s.TypeIs (.ref sl) "slice" := ⟨os, hos, hcs⟩
  unfold getItem
  try with_reducible refine wpAny_holding ?_
  first | refine wpAny_bind (wpAny_pure ?_) | skip
  refine wpAny_bind (wpAny_sequenceKey ht.typeIs (by decide) ?_)
  refine wpAny_bind (wpAny_callSpecial?_slot (name := Str.ofString "__getitem__") ht.typeIs PyProof.Rows.slot_tuple_getitem
    (wpAny_call_entry PyProof.Rows.slot_tuple_getitem ht.typeIs entry_tuple_getitem ?_ (args_tuple_getitem _ _)))
  show wpAny _ _ (Builtin.Tuple.tupleItemsOf (.ref t) >>= _) _ _ s
  refine wpAny_bind (tupleItemsOf_ ht ?_)
  refine wpAny_bind (wpAny_typeOf hTs ?_)
  rw [if_pos (by decide)]
  refine wpAny_bind (sliceApplied_gen hs pl pu ?_)
  have hno : ¬ ((((sIx items.size 0 lo : Nat) : Int) == 0 && (1 : Int) == 1 && (sIx items.size items.size hi - sIx items.size 0 lo) == items.size) = true) := by
    intro q
    rw [Bool.and_eq_true, Bool.and_eq_true] at q
    have q1 : ((sIx items.size 0 lo : Nat) : Int) = 0 := eq_of_beq q.1.1
    have q2 : sIx items.size items.size hi - sIx items.size 0 lo = items.size := eq_of_beq q.2
    exact hw ⟨by omega, by omega⟩
  show wpAny _ _ (if (((sIx items.size 0 lo : Nat) : Int) == 0 && (1 : Int) == 1 && (sIx items.size items.size hi - sIx items.size 0 lo) == items.size) = true then _ else _) _ _ s
  rw [if_neg hno, pick_gen]
  first
    | exact wpAny_bind (m := Builtin.Tuple.tupleExact _) (wpAny_newObj_type (wpAny_pure ⟨_, rfl, wpAny_pure h⟩) htake)
    | exact wpAny_bind (m := Builtin.Tuple.tupleExact _) (wpAny_newObj_type (wpAny_bind (wpAny_pure (wpAny_pure ⟨_, rfl, wpAny_pure h⟩))) htake)
    | exact wpAny_bind (wpAny_bind (m := Builtin.Tuple.tupleExact _) (wpAny_newObj_type (wpAny_pure (wpAny_pure ⟨_, rfl, wpAny_pure h⟩)) htake))
    | exact wpAny_bind (wpAny_bind (m := Builtin.Tuple.tupleExact _) (wpAny_newObj_type (wpAny_pure ⟨_, rfl, wpAny_pure h⟩) htake))
end
end HT

namespace L2
open PySem PySem.Spec PyProof.Rows

/-! ### the parts of a slice -/
abbrev TO := St → Hp → (Option Int → Hp → Prop) → Prop
/-- a slice's part (left out, or an int) -/
def PO (X : Cx) (e : Option Expr) (t : TO) : Prop :=
  ∀ (pins : List (Addr × Obj)) (s : Shared) (σ : St) (H : Hp) (Q : Option Int → Hp → Prop), Inv X pins σ H s → t σ H Q →
    wpAny (model X.prog X.w) X.A (evalPart e X.env) (fun u s' => ∃ o H', Inv X pins σ H' s' ∧ IsPart u o ∧ Q o H') X.xe s
def tNoPart : TO := fun _ H Q => Q none H
def tPart (t : TE) : TO := fun σ H Q => t σ H fun x H1 => ∃ i, x = .int i ∧ Q (some i) H1


section
variable {X : Cx} {e : Expr} {te : TE} {lo hi : Option Expr} {tl th : TO} {pos p2 : Pos}

theorem po_none : PO X none tNoPart := by
  intro pins s σ H Q I h
  rw [evalPart_none]
  exact wpAny_pure ⟨none, H, I, .none, h⟩
theorem po_some (h : PE X e te) : PO X (some e) (tPart te) := by
  intro pins s σ H Q I hw
  rw [evalPart_some]
  refine thn (h pins s σ H _ I hw) fun u s1 ⟨x, H1, I1, r1, q1⟩ => ?_
  obtain ⟨i, rfl, q⟩ := q1
  obtain ⟨t, rfl⟩ := r1
  exact ⟨some i, H1, I1, .int i t, q⟩

/-- what a slice of a value is, by values: the slice object stands at sl -/
def SlR (X : Cx) (r : V → Option Int → Option Int → Hp → VK → Prop) : Prop :=
  ∀ (pins : List (Addr × Obj)) (s : Shared) (σ : St) (H : Hp) (x : V) (v vl vu : Value) (lo hi : Option Int) (sl : Addr) (Q : VK), Inv X pins σ H s → RelV x v → s.heap.IsSliceOf sl vl vu .none → IsPart vl lo → IsPart vu hi → r x lo hi H Q →
    ∃ T id, typeLookup (.type T) "__getitem__" = pure (some (.builtin id)) ∧ s.TypeIs v T ∧ wpAny (model X.prog X.w) X.A (getItem v (.ref sl)) (EP X pins σ Q) X.xe s
def tSl (r : V → Option Int → Option Int → Hp → VK → Prop) (te : TE) (tl th : TO) : TE := fun σ H Q => te σ H fun x H1 => tl σ H1 fun l H2 => th σ H2 fun u H3 => r x l u H3 Q
/-- a[lo:hi], any a -/
theorem pe_slice {r : V → Option Int → Option Int → Hp → VK → Prop} (hr : SlR X r) (he : PE X e te) (hl : PO X lo tl) (hu : PO X hi th) : PE X (.Subscript e (.Slice lo hi none p2) pos) (tSl r te tl th) := by
  intro pins s σ H Q I h
  refine Subscript_ (thn (he pins s σ H _ I h) fun v s1 ⟨x, H1, I1, r1, q1⟩ => ?_)
  refine wpAny_Slice (thn (hl pins s1 σ H1 _ I1 q1) fun vl s2 ⟨l, H2, I2, pl, q2⟩ => thn (hu pins s2 σ H2 _ I2 q2) fun vu s3 ⟨u, H3, I3, pu, q3⟩ => ?_)
  rw [evalPart_none]
  refine wpAny_pure ?_
  have I4 : Inv X pins σ H3 { s3 with heap := s3.heap.push { cls := .type "slice", data := .fields #[vl, vu, .none] } } := I3.kept (t' := s3.toks) fun b ob q => Heap.get?_push_of_some _ q
  obtain ⟨T, id, hT, ht, hg⟩ := hr pins { s3 with heap := s3.heap.push { cls := .type "slice", data := .fields #[vl, vu, .none] } } σ H3 x v vl vu l u s3.heap.objs.size Q I4 r1 (Heap.IsSliceOf.new ..) pl pu q3
  show wpAny (model X.prog X.w) X.A (subscriptTail e (.Slice lo hi none p2) v (.ref s3.heap.objs.size)) (EP X pins σ Q) X.xe { s3 with heap := s3.heap.push { cls := .type "slice", data := .fields #[vl, vu, .none] } }
  exact tail_any (ops := [.ref s3.heap.objs.size, v]) ht hT hg (by with_unfolding_all rfl)

/-- the items of xs[lo:hi] -/
def cutV (xs : List V) (lo hi : Option Int) : List V := (xs.drop (HT.sIx xs.length 0 lo)).take (HT.sIx xs.length xs.length hi - HT.sIx xs.length 0 lo)
theorem cutV_length (xs : List V) (lo hi : Option Int) : (cutV xs lo hi).length ≤ xs.length := by
  unfold cutV
  rw [List.length_take, List.length_drop]
  omega
/-- t[lo:hi], not the whole of it (the whole would be t itself) -/
def rSlT (K : PySem.W.Frag) : V → Option Int → Option Int → Hp → VK → Prop := fun x lo hi H Q => ∃ a xs, x = .ref a ∧ SqT K H a xs ∧
  ¬ (HT.sIx xs.length 0 lo = 0 ∧ HT.sIx xs.length xs.length hi = xs.length) ∧ ∀ p, H p = none → Q (.ref p) (upd H p (.tup (cutV xs lo hi)))
theorem sl_tup : SlR X (rSlT X.K) := by
  intro pins s σ H x v vl vu lo hi sl Q I rx hs pl pu h
  obtain ⟨a, xs, rfl, hx, hw, q⟩ := h
  cases rx
  obtain ⟨its, r, ht, hz⟩ := I.tuple hx
  have hlen : its.toArray.size = xs.length := by rw [List.size_toArray]; exact r.length.symm
  refine ⟨"tuple", _, PyProof.Rows.slot_tuple_getitem.lookup, ht.typeIs, ?_⟩
  refine HT.getItem_tuple_cut ht hs pl pu (by rw [hlen]; exact hw) ?_ (by rw [hlen]; exact hz)
  rw [hlen]
  refine ⟨.ref s.heap.objs.size, _, I.laid (t' := s.toks) (o := .tup (cutV xs lo hi)) (fun b ob q => Heap.get?_push_of_some _ q) (Nat.le_refl _) ?_, rfl, q _ (I.hok.fresh (Nat.le_refl _))⟩
  exact ⟨Nat.le_trans (cutV_length xs lo hi) hz, _, (r.drop (HT.sIx xs.length 0 lo)).take (HT.sIx xs.length xs.length hi - HT.sIx xs.length 0 lo), TupO.new _ _⟩

/-! ### t < u, t + u -/
/-- t + u, t not empty: u empty gives t itself -/
def rCatT (K : PySem.W.Frag) : R2 := fun x y H Q => ∃ a b xs ys, x = .ref a ∧ y = .ref b ∧ SqT K H a xs ∧ SqT K H b ys ∧ xs ≠ [] ∧ xs.length + ys.length ≤ sizeLine ∧
  (ys = [] → Q (.ref a) H) ∧ (ys ≠ [] → ∀ p, H p = none → Q (.ref p) (upd H p (.tup (xs ++ ys))))
theorem Vals.nil_iff {xs : List V} {us : List Value} (r : Vals xs us) : us = [] ↔ xs = [] := by
  cases r with
  | nil => simp
  | cons _ _ => simp
theorem op_catT : OpR X (binaryOp .Add) (rCatT X.K) := by
  intro pins s σ H x y v u Q I rx ry h
  obtain ⟨a, b, xs, ys, rfl, rfl, ha, hb, hx, hz, q1, q2⟩ := h
  cases rx
  cases ry
  obtain ⟨its, r1, p1, _⟩ := I.tuple ha
  obtain ⟨its2, r2, p2, _⟩ := I.tuple hb
  refine HT.cat_tup p1 p2 (fun z => hx (r1.nil_iff.mp z)) (fun z => ⟨.ref a, H, I, rfl, q1 (r2.nil_iff.mp z)⟩) (fun z => ?_) (by rw [← r1.length, ← r2.length]; exact hz)
  refine ⟨.ref s.heap.objs.size, _, I.laid (t' := s.toks) (o := .tup (xs ++ ys)) (fun b ob q => Heap.get?_push_of_some _ q) (Nat.le_refl _) ?_, rfl, q2 (fun w => z (r2.nil_iff.mpr w)) _ (I.hok.fresh (Nat.le_refl _))⟩
  exact ⟨by rw [List.length_append]; exact hz, _, r1.append r2, TupO.new _ _⟩
end
end L2

namespace L2
open PySem PySem.Spec PyProof.Rows

/-! ### places -/
/-- the place that an index of any sign means -/
def ixN (n : Nat) (i : Int) : Option Nat := if 0 ≤ i then (if i < n then some i.toNat else none) else if -(n : Int) ≤ i then some (i + n).toNat else none
def atI {α : Type} (xs : List α) (i : Int) : Option α := (ixN xs.length i).bind fun j => xs[j]?
theorem ixN_seq {n : Nat} {i : Int} {j : Nat} (h : ixN n i = some j) : seqIndex? i n = some j ∧ j < n ∧ -(n : Int) ≤ i ∧ i < n := by
  unfold ixN at h
  by_cases h0 : 0 ≤ i
  · rw [if_pos h0] at h
    by_cases h1 : i < n
    · rw [if_pos h1] at h
      have e : i.toNat = j := Option.some.inj h
      exact ⟨by rw [seqIndex_of h0 h1, e], by omega, by omega, h1⟩
    · rw [if_neg h1] at h; cases h
  · rw [if_neg h0] at h
    by_cases h1 : -(n : Int) ≤ i
    · rw [if_pos h1] at h
      have e : (i + n).toNat = j := Option.some.inj h
      exact ⟨by rw [seqIndex_neg (by omega) h1, e], by omega, h1, by omega⟩
    · rw [if_neg h1] at h; cases h
theorem atI_get {α : Type} {xs : List α} {i : Int} {v : α} (h : atI xs i = some v) : ∃ j, seqIndex? i xs.length = some j ∧ xs[j]? = some v ∧ j < xs.length ∧ -(xs.length : Int) ≤ i ∧ i < xs.length := by
  unfold atI at h
  cases e : ixN xs.length i with
  | none => rw [e] at h; cases h
  | some j =>
    rw [e] at h
    obtain ⟨h1, h2, h3, h4⟩ := ixN_seq e
    exact ⟨j, h1, h, h2, h3, h4⟩
theorem atI_nat {α : Type} {xs : List α} {j : Nat} {v : α} (h : xs[j]? = some v) : atI xs (j : Int) = some v := by
  have hj : j < xs.length := (List.getElem?_eq_some_iff.mp h).1
  have e : ixN xs.length (j : Int) = some j := by
    unfold ixN
    rw [if_pos (by omega), if_pos (by omega)]; simp
  unfold atI; rw [e]; exact h

/-! ### what may be subscripted -/
/-- what stands as an index of a plain subscript -/
def PlainIx (b : Expr) : Prop := ∀ o i, subscripted b false o i = operate [o, i] (getItem o i)
/-- a subscript by values -/
def IxR (X : Cx) (r : R2) : Prop :=
  ∀ (value slice : Expr) (pins : List (Addr × Obj)) (s : Shared) (σ : St) (H : Hp) (x y : V) (v u : Value) (Q : VK), Inv X pins σ H s → RelV x v → RelV y u → r x y H Q →
    subscripted slice false v u = operate [v, u] (getItem v u) → wpAny (model X.prog X.w) X.A (subscriptTail value slice v u) (EP X pins σ Q) X.xe s
/-- a call of a builtin's method by values: the receiver, the arguments -/
def MtR (X : Cx) (id : String) (r : V → List V → Hp → VK → Prop) : Prop :=
  ∀ (pins : List (Addr × Obj)) (s : Shared) (σ : St) (H : Hp) (x : V) (xs : List V) (v : Value) (us : List Value) (Q : VK), Inv X pins σ H s → RelV x v → Vals xs us → r x xs H Q →
    wpAny (model X.prog X.w) X.A (call (.builtin id) (v :: us)) (EP X pins σ Q) X.xe s
section
variable {X : Cx} {a b : Expr} {ta tb : TE} {pos : Pos}
/-- a[b] -/
theorem pe_ix {r : R2} (hr : IxR X r) (ha : PE X a ta) (hb : PE X b tb) (hs : PlainIx b) : PE X (.Subscript a b pos) (tOp r ta tb) := by
  intro pins s σ H Q I h
  exact Subscript_ (binT ha hb I h fun v u s2 x y H2 I2 rx ry q => hr a b pins s2 σ H2 x y v u Q I2 rx ry q (hs _ _))

def rIxL (K : PySem.W.Frag) : R2 := fun x y H Q => ∃ p xs i v, x = .ref p ∧ y = .int i ∧ SqL K H p xs ∧ atI xs i = some v ∧ Q v H
def rIxT (K : PySem.W.Frag) : R2 := fun x y H Q => ∃ p xs i v, x = .ref p ∧ y = .int i ∧ SqT K H p xs ∧ atI xs i = some v ∧ Q v H
theorem ix_list : IxR X (rIxL X.K) := by
  intro value slice pins s σ H x y v u Q I rx ry h hs
  obtain ⟨p, xs, i, z, rfl, rfl, hq, he, q⟩ := h
  cases rx
  obtain ⟨t, rfl⟩ := ry
  obtain ⟨its, r, pl, hz⟩ := I.list hq
  obtain ⟨j, h1, h2, h3, h4, h5⟩ := atI_get he
  obtain ⟨w, ew, rw'⟩ := r.get h2
  have hl := r.length
  have hn := line63
  have fin : EP X pins σ Q w s := ⟨z, H, I, rw', q⟩
  by_cases h0 : 0 ≤ i
  · have hj : i.toNat = j := by
      rw [seqIndex_of h0 h5] at h1
      exact Option.some.inj h1
    exact item_listR pl.isList h0 (by omega) (by rw [hj]; simpa using ew) fin hs
  · have hj : (i + (its.toArray.size : Int)).toNat = j := by
      rw [seqIndex_neg (by omega) h4] at h1
      rw [List.size_toArray, ← hl]
      exact Option.some.inj h1
    exact subscriptTail_builtinR (x := w) pl.isList.typeIs slot_list_getitem.lookup
      (wpAny_getItem_list_neg (Q := fun r s' => r = w ∧ EP X pins σ Q r s') pl.isList (by omega) (by rw [List.size_toArray] <;> omega) (by omega) (by rw [hj]; simpa using ew) ⟨rfl, fin⟩) hs
theorem ix_tup : IxR X (rIxT X.K) := by
  intro value slice pins s σ H x y v u Q I rx ry h hs
  obtain ⟨p, xs, i, z, rfl, rfl, hq, he, q⟩ := h
  cases rx
  obtain ⟨t, rfl⟩ := ry
  obtain ⟨its, r, pl, hz⟩ := I.tuple hq
  obtain ⟨j, h1, h2, h3, h4, h5⟩ := atI_get he
  obtain ⟨w, ew, rw'⟩ := r.get h2
  have hl := r.length
  have hn := line63
  have fin : EP X pins σ Q w s := ⟨z, H, I, rw', q⟩
  exact subscriptTail_builtinR (x := w) pl.typeIs slot_tuple_getitem.lookup
    (getItem_tuple (j := j) (Q := fun r s' => r = w ∧ EP X pins σ Q r s') pl (by omega) (by omega) (by rw [List.size_toArray, ← hl]; exact h1) (by simpa using ew) ⟨rfl, fin⟩) hs

/-! ### xs[i] = v, any sign -/
/-- the list's object behind a store -/
theorem mapSeq_set (its : List Value) (n j : Nat) (u : Value) : Obj.mapSeq (·.setIfInBounds j u) { cls := .type "list", data := .seq its.toArray n } = { cls := .type "list", data := .seq (its.set j u).toArray n } := by
  simp [Obj.mapSeq]
theorem Inv.lst {pins : List (Addr × Obj)} {σ : St} {H : Hp} {s : Shared} {p : Addr} {xs : List V} (I : Inv X pins σ H s) (h : H p = some (.lst xs)) :
    ∃ (its : List Value) (n : Nat), Vals xs its ∧ s.heap.get? p = some { cls := .type "list", data := .seq its.toArray n } ∧ xs.length ≤ sizeLine := by
  obtain ⟨z, its, n, r, e⟩ := I.hok p _ h
  exact ⟨its, n, r, e, z⟩
/-- the list at p is written by an update of its object -/
theorem Inv.lstUpd {pins : List (Addr × Obj)} {σ : St} {H : Hp} {s : Shared} {p : Addr} {xs ys : List V} {its its' : List Value} {n n' : Nat} {f : Obj → Obj} (I : Inv X pins σ H s) (h : H p = some (.lst xs))
    (ho : s.heap.get? p = some { cls := .type "list", data := .seq its.toArray n }) (hf : f { cls := .type "list", data := .seq its.toArray n } = { cls := .type "list", data := .seq its'.toArray n' }) (r : Vals ys its') (hz : ys.length ≤ sizeLine) (t : Nat) :
    Inv X pins σ (upd H p (.lst ys)) { s with heap := s.heap.update p f, toks := t } := by
  have e : (s.heap.update p f).get? p = some { cls := .type "list", data := .seq its'.toArray n' } := by
    rw [Heap.get?_update_self f ho (by rw [hf] <;> rfl), hf]
  refine I.write (x := p) (e := p) (by rw [h]; trivial) (.inl rfl) (fun b u hb q => (Heap.get?_update_other _ _ (Ne.symm hb)).trans q) ⟨_, e⟩ ?_
  exact ⟨hz, its', n', r, e⟩
def rSetL : V → V → V → Hp → (Hp → Prop) → Prop := fun o i v H Q => ∃ p xs k j, o = .ref p ∧ i = .int k ∧ H p = some (.lst xs) ∧ ixN xs.length k = some j ∧ Q (upd H p (.lst (xs.set j v)))
theorem set_list : PSet X rSetL := by
  intro pins s σ H o i v ov iv u Q I ro ri rv h
  obtain ⟨p, xs, k, j, rfl, rfl, hp, hj, q⟩ := h
  cases ro
  obtain ⟨t, rfl⟩ := ri
  obtain ⟨its, n, r, ho, hz⟩ := I.lst hp
  obtain ⟨h1, h2, h3, h4⟩ := ixN_seq hj
  have hl := r.length
  have hn := line63
  have I' : Inv X pins σ (upd H p (.lst (xs.set j v))) { s with heap := s.heap.update p (Obj.mapSeq (·.setIfInBounds j u)) } :=
    I.lstUpd hp ho (mapSeq_set its n j u) (r.set rv j) (by rw [List.length_set]; exact hz) s.toks
  by_cases h0 : 0 ≤ k
  · have hk : k.toNat = j := by
      rw [seqIndex_of h0 h4] at h1
      exact Option.some.inj h1
    exact PySem.W.ki_setAt ho h0 (by omega) (by rw [List.size_toArray, ← hl]; exact h4) (by rw [hk]; exact ⟨_, I', q⟩)
  · have hk : (k + (its.toArray.size : Int)).toNat = j := by
      rw [seqIndex_neg (by omega) h3] at h1
      rw [List.size_toArray, ← hl]
      exact Option.some.inj h1
    exact PySem.W.ki_setBack ho (by omega) (by rw [List.size_toArray, ← hl]; exact h3) (by omega) (by rw [hk]; exact ⟨_, I', q⟩)

/-! ### slices -/

/-! ### in, not in: flat items -/
def flatV : V → Bool
  | .non => true
  | .bl _ => true
  | .int _ => true
  | .str _ => true
  | _ => false
/-- == of flat values -/
def eqV : V → V → Bool
  | .non, .non => true
  | .bl a, .bl b => a == b
  | .bl a, .int b => (if a then 1 else 0) == b
  | .int a, .bl b => a == (if b then 1 else 0)
  | .int a, .int b => a == b
  | .str a, .str b => a == b
  | _, _ => false
theorem eqAt_V {A : Around} {s : Shared} {y x : V} {u v : Value} (ry : RelV y u) (rx : RelV x v) (fy : flatV y = true) (fx : flatV x = true) : SeqAt.EqAt A s u v (eqV y x) := by
  cases y with
  | non =>
    cases ry
    cases x with
    | non => cases rx; exact SeqAt.EqAt.same _
    | bl b => cases rx; exact SeqAt.EqAt.none_bool b
    | int b => obtain ⟨t, rfl⟩ := rx; exact SeqAt.EqAt.none_int b t
    | str b => obtain ⟨t, rfl⟩ := rx; exact SeqAt.EqAt.none_str b t
    | _ => exact absurd (show false = true from fx) Bool.false_ne_true
  | bl a =>
    cases ry
    cases x with
    | non => cases rx; exact SeqAt.EqAt.bool_none a
    | bl b => cases rx; exact SeqAt.EqAt.bool_bool a b
    | int b => obtain ⟨t, rfl⟩ := rx; exact SeqAt.EqAt.bool_int a b t
    | str b => obtain ⟨t, rfl⟩ := rx; exact SeqAt.EqAt.bool_str a b t
    | _ => exact absurd (show false = true from fx) Bool.false_ne_true
  | int a =>
    obtain ⟨t', rfl⟩ := ry
    cases x with
    | non => cases rx; exact SeqAt.EqAt.int_none a t'
    | bl b => cases rx; exact SeqAt.EqAt.int_bool a t' b
    | int b => obtain ⟨t, rfl⟩ := rx; exact SeqAt.EqAt.int_int a t' b t
    | str b => obtain ⟨t, rfl⟩ := rx; exact SeqAt.EqAt.int_str a t' b t
    | _ => exact absurd (show false = true from fx) Bool.false_ne_true
  | str a =>
    obtain ⟨t', rfl⟩ := ry
    cases x with
    | non => cases rx; exact SeqAt.EqAt.str_none a t'
    | bl b => cases rx; exact SeqAt.EqAt.str_bool a t' b
    | int b => obtain ⟨t, rfl⟩ := rx; exact SeqAt.EqAt.str_int a t' b t
    | str b => obtain ⟨t, rfl⟩ := rx; exact SeqAt.EqAt.str_str a t' b t
    | _ => exact absurd (show false = true from fx) Bool.false_ne_true
  | _ => exact absurd (show false = true from fy) Bool.false_ne_true
/-- the items' answers, read off the values (a value's own answer does not lean on its token) -/
def eqU (x : V) (u : Value) : Bool := match u with
  | .none => eqV .non x
  | .bool b => eqV (.bl b) x
  | .int i _ => eqV (.int i) x
  | .str z _ => eqV (.str z) x
  | _ => false
theorem eqU_of {x y : V} {u : Value} (r : RelV y u) (f : flatV y = true) : eqU x u = eqV y x := by
  cases y with
  | non => cases r; rfl
  | bl b => cases r; rfl
  | int i => obtain ⟨t, rfl⟩ := r; rfl
  | str z => obtain ⟨t, rfl⟩ := r; rfl
  | _ => exact absurd (show false = true from f) Bool.false_ne_true
theorem any_eqU {x : V} : ∀ {xs : List V} {us : List Value}, Vals xs us → xs.all flatV = true → us.any (eqU x) = xs.any fun y => eqV y x
  | _, _, .nil, _ => rfl
  | y :: xs, u :: us, .cons r t, f => by
    rw [List.all_cons, Bool.and_eq_true] at f
    rw [List.any_cons, List.any_cons, eqU_of r f.1, any_eqU t f.2]
theorem mem_eqAt {A : Around} {s : Shared} {x : V} {v : Value} (rx : RelV x v) (fx : flatV x = true) : ∀ {xs : List V} {us : List Value}, Vals xs us → xs.all flatV = true → ∀ u ∈ us, SeqAt.EqAt A s u v (eqU x u)
  | _, _, .nil, _ => fun u hu => by cases hu
  | y :: xs, u :: us, .cons r t, f => fun u' hu => by
    rw [List.all_cons, Bool.and_eq_true] at f
    rcases List.mem_cons.mp hu with rfl | hu
    · rw [eqU_of r f.1]; exact eqAt_V r rx f.1 fx
    · exact mem_eqAt rx fx t f.2 u' hu
def inV (x : V) (xs : List V) : Bool := xs.any fun y => eqV y x
/-- x in a list or tuple of flat items -/
def rIn (K : PySem.W.Frag) (neg : Bool) : R2 := fun x y H Q => ∃ p xs, y = .ref p ∧ (SqL K H p xs ∨ SqT K H p xs) ∧ flatV x = true ∧ xs.all flatV = true ∧ Q (.bl (if neg then !inV x xs else inV x xs)) H
theorem op_in_seq : OpR X (compareOp .In) (rIn X.K false) := by
  intro pins s σ H x y v u Q I rx ry h
  obtain ⟨p, xs, rfl, hq, fx, fs, q⟩ := h
  cases ry
  rcases hq with hq | hq
  · obtain ⟨its, r, pl, hz⟩ := I.list hq
    refine SeqAt.in_listAt (eqU x) pl.isList (fun w hw => mem_eqAt rx fx r fs w (by simpa using hw)) ⟨.bl _, H, I, rfl, ?_⟩
    rw [show its.toArray.any (eqU x) = its.any (eqU x) by simp, any_eqU r fs]
    exact q
  · obtain ⟨its, r, pl, hz⟩ := I.tuple hq
    refine SeqAt.in_tupleAt (eqU x) pl (fun w hw => mem_eqAt rx fx r fs w (by simpa using hw)) ⟨.bl _, H, I, rfl, ?_⟩
    rw [show its.toArray.any (eqU x) = its.any (eqU x) by simp, any_eqU r fs]
    exact q
theorem op_notIn_seq : OpR X (compareOp .NotIn) (rIn X.K true) := by
  intro pins s σ H x y v u Q I rx ry h
  obtain ⟨p, xs, rfl, hq, fx, fs, q⟩ := h
  cases ry
  rcases hq with hq | hq
  · obtain ⟨its, r, pl, hz⟩ := I.list hq
    refine SeqAt.notIn_listAt (eqU x) pl.isList (fun w hw => mem_eqAt rx fx r fs w (by simpa using hw)) ⟨.bl _, H, I, rfl, ?_⟩
    rw [show its.toArray.any (eqU x) = its.any (eqU x) by simp, any_eqU r fs]
    exact q
  · obtain ⟨its, r, pl, hz⟩ := I.tuple hq
    refine SeqAt.notIn_tupleAt (eqU x) pl (fun w hw => mem_eqAt rx fx r fs w (by simpa using hw)) ⟨.bl _, H, I, rfl, ?_⟩
    rw [show its.toArray.any (eqU x) = its.any (eqU x) by simp, any_eqU r fs]
    exact q

/-! ### len, list(x), tuple(x) of any list or tuple that is read -/
theorem call_len_seq : CallR X (.builtin "len") (fun xs H Q => ∃ p ys, xs = [.ref p] ∧ (SqL X.K H p ys ∨ SqT X.K H p ys) ∧ Q (.int ys.length) H) := by
  intro pins s σ H xs us Q I r h
  obtain ⟨p, ys, rfl, hq, q⟩ := h
  obtain ⟨u, rfl, rx⟩ := vals1 r
  cases rx
  have hn := line63
  rcases hq with hq | hq
  · obtain ⟨its, r', pl, hz⟩ := I.list hq
    have hlen := r'.length
    exact Calls.call_len_list pl.isList (by simp only [List.size_toArray] <;> omega) ⟨.int ys.length, H, I.tok _, ⟨s.toks + 1, by rw [List.size_toArray, hlen]⟩, q⟩
  · obtain ⟨its, r', pl, hz⟩ := I.tuple hq
    have hlen := r'.length
    exact len_tuple pl (by simp only [List.size_toArray] <;> omega) ⟨.int ys.length, H, I.tok _, ⟨s.toks + 1, by rw [List.size_toArray, hlen]⟩, q⟩
theorem call_list_of : CallR X (.type "list") (fun xs H Q => ∃ p ys, xs = [.ref p] ∧ (SqL X.K H p ys ∨ SqT X.K H p ys) ∧ ∀ l, H l = none → Q (.ref l) (upd H l (.lst ys))) := by
  intro pins s σ H xs us Q I r h
  obtain ⟨p, ys, rfl, hq, q⟩ := h
  obtain ⟨u, rfl, rx⟩ := vals1 r
  cases rx
  have fin : ∀ (its : List Value), Vals ys its → ys.length ≤ sizeLine → ∀ (h' : Heap) (c' : Nat), (∀ b o', s.heap.get? b = some o' → h'.get? b = some o') →
      h'.get? s.heap.objs.size = some { cls := .type "list", dict := none, data := .seq its.toArray c', slots := #[] } → EP X pins σ Q (.ref s.heap.objs.size) { s with heap := h' } := fun its r' hz h' c' kp e =>
    ⟨.ref s.heap.objs.size, _, I.laid (t' := s.toks) kp (Nat.le_refl _) (show ObjOk X.prog X.w _ h' _ (.lst ys) from ⟨hz, its, c', r', e⟩), rfl, q _ (I.hok.fresh (Nat.le_refl _))⟩
  rcases hq with hq | hq
  · obtain ⟨its, r', pl, hz⟩ := I.list hq
    have hlen := r'.length
    obtain ⟨o, ho, hc, n, hd⟩ := pl.isList
    exact call_list_seq p (.inl rfl) ho hc hd (fun h' c' kp e => fin its r' hz h' c' kp e) (by simp only [List.size_toArray] <;> omega)
  · obtain ⟨its, r', pl, hz⟩ := I.tuple hq
    have hlen := r'.length
    obtain ⟨o, ho, hc, n, hd⟩ := pl
    exact call_list_seq p (.inr rfl) ho hc hd (fun h' c' kp e => fin its r' hz h' c' kp e) (by simp only [List.size_toArray] <;> omega)
theorem call_tuple_of : CallR X (.type "tuple") (fun xs H Q => ∃ p ys, xs = [.ref p] ∧ ((SqL X.K H p ys ∧ ∀ l, H l = none → Q (.ref l) (upd H l (.tup ys))) ∨ (SqT X.K H p ys ∧ Q (.ref p) H))) := by
  intro pins s σ H xs us Q I r h
  obtain ⟨p, ys, rfl, h⟩ := h
  obtain ⟨u, rfl, rx⟩ := vals1 r
  cases rx
  rcases h with ⟨hq, q⟩ | ⟨hq, q⟩
  · obtain ⟨its, r', pl, hz⟩ := I.list hq
    have hlen := r'.length
    refine call_tuple_list pl.isList (fun h' kp => ?_) (by simp only [List.size_toArray] <;> omega)
    have I1 : Inv X pins σ H { s with heap := h' } := I.kept (t' := s.toks) kp
    have I2 : Inv X pins σ (upd H h'.objs.size (.tup ys)) { s with heap := h'.push { cls := .type "tuple", data := .seq its.toArray } } :=
      I1.laid (t' := s.toks) (fun b o e => Heap.get?_push_of_some _ e) (Nat.le_refl _) (show ObjOk X.prog X.w _ _ _ (.tup ys) from ⟨hz, its, r', TupO.new _ _⟩)
    exact ⟨.ref h'.objs.size, _, I2, rfl, q _ (I1.hok.fresh (Nat.le_refl _))⟩
  · obtain ⟨its, r', pl, hz⟩ := I.tuple hq
    exact call_tuple_same pl ⟨.ref p, H, I, rfl, q⟩

/-! ### the call of a builtin's method: o.m(..) -/
/-- the value is of that builtin type -/
def tyV (K : PySem.W.Frag) (T : String) (x : V) (H : Hp) : Prop := match x with
  | .str _ => T = "str"
  | .int _ => T = "int"
  | .ref p => (T = "list" ∧ ∃ xs, SqL K H p xs) ∨ (T = "tuple" ∧ ∃ o, K.lookup p = some o ∧ o.cls = .type "tuple" ∧ o.dict = none) ∨
      (T = "dict" ∧ ((∃ kvs, H p = some (.dK kvs)) ∨ ∃ kvs, H p = some (.dT kvs))) ∨ (T = "set" ∧ ∃ S n, H p = some (.set S n))
  | _ => False
theorem tyV_is {pins : List (Addr × Obj)} {σ : St} {H : Hp} {s : Shared} {T : String} {x : V} {v : Value} (I : Inv X pins σ H s) (r : RelV x v) (ty : tyV X.K T x H) :
    s.TypeIs v T ∧ ∀ a, v = .ref a → ∃ ob, s.heap.get? a = some ob ∧ ob.dict = none := by
  cases x with
  | str z =>
    obtain ⟨t, rfl⟩ := r
    cases (show T = "str" from ty)
    exact ⟨typeIs_str s z t, fun _ e => nomatch e⟩
  | int i =>
    obtain ⟨t, rfl⟩ := r
    cases (show T = "int" from ty)
    exact ⟨typeIs_int s i t, fun _ e => nomatch e⟩
  | ref p =>
    cases r
    rcases ty with ⟨rfl, xs, hq⟩ | ⟨rfl, o, hk, hc, hd⟩ | ⟨rfl, hk⟩ | ⟨rfl, S, n, hk⟩
    · obtain ⟨its, _, pl, _⟩ := I.list hq
      refine ⟨pl.isList.typeIs, fun a e => ?_⟩
      cases e
      obtain ⟨o, n, e, c, hd, _⟩ := pl
      exact ⟨o, e, hd⟩
    · refine ⟨⟨o, I.kIn p o hk, hc⟩, fun a e => ?_⟩
      cases e
      exact ⟨o, I.kIn _ o hk, hd⟩
    · have z : ∃ o, s.heap.get? p = some o ∧ o.ExactDict := by
        rcases hk with ⟨kvs, hk⟩ | ⟨kvs, hk⟩
        · obtain ⟨_, _, _, _, o, _, _, e, ex, _⟩ := I.hok p _ hk
          exact ⟨o, e, ex⟩
        · obtain ⟨_, _, _, _, o, _, _, e, ex, _⟩ := I.hok p _ hk
          exact ⟨o, e, ex⟩
      obtain ⟨o, e, ex⟩ := z
      refine ⟨⟨o, e, ex.1⟩, fun a e2 => ?_⟩
      cases e2
      exact ⟨o, e, ex.2.1⟩
    · obtain ⟨o, _, _, _, e, ex, _⟩ := I.hok p _ hk
      refine ⟨⟨o, e, ex.1⟩, fun a e2 => ?_⟩
      cases e2
      exact ⟨o, e, ex.2.1⟩
  | _ => exact False.elim ty
def tBM (K : PySem.W.Frag) (T : String) (r : V → List V → Hp → VK → Prop) (to : TE) (t : TA) : TE := fun σ H Q => to σ H fun x H1 => tyV K T x H1 ∧ t σ H1 fun xs H2 => r x xs H2 Q
variable {o e : Expr} {es : List Expr} {to : TE} {t : TA} {name : Str} {apos cpos : Pos} {T id : String} {r : V → List V → Hp → VK → Prop}
theorem pe_bm (pa : PlainAttrs T) (slot : Slot T name id) (hty : typeOf (.builtin id) = pure (.type "method_descriptor")) (hm : MtR X id r) (ho : PE X o to) (ha : PA X (e :: es) t)
    (hbase : attributeBase o name X.env (eval o X.env) = eval o X.env := by rfl)
    (hfew : ((backTo cpos (starEach (e :: es) X.env)).all (fun x => !x.1) && (backToKw cpos (keywordEach [] X.env)).all (fun x => x.1.isSome)
      && decide ((e :: es).length + ([] : List Keyword).length + (if ([] : List Keyword).isEmpty then 0 else 1) < 30)) = true := by rfl)
    (hline : (apos.endLine == cpos.line) = true := by rfl) (hs : starEach (e :: es) X.env = (false, eval e X.env) :: starEach es X.env := by rfl) (hplain : (backTo cpos (starEach es X.env)).any (·.1) = false := by rfl) :
    PE X (.Call (.Attribute o name apos) (e :: es) [] cpos) (tBM X.K T r to t) := by
  intro pins s σ H Q I h
  refine wpAny_Call_method_late hbase hfew hline rfl (thn (ho pins s σ H _ I h) fun v s1 ⟨x, H1, I1, r1, ty, q1⟩ => ?_)
  obtain ⟨h1, h2⟩ := tyV_is I1 r1 ty
  refine ⟨T, id, pa, slot, hty, h1, h2, ?_⟩
  have hA := ha cpos pins s1 σ H1 _ I1 q1
  rw [hs] at hA ⊢
  refine Calls.callWith_builtin (by show (false || (backTo cpos (starEach es X.env)).any (·.1)) = false; rw [hplain] <;> rfl) (Calls.evalArgs_plain ?_)
  exact thn hA fun us s2 ⟨vs, H2, I2, r2, q2⟩ => hm pins s2 σ H2 x vs v us Q I2 r1 r2 q2
/- xs.append(e), list.index on a module's tuple .. are MtR facts of 06m -/
end
end L2

namespace L2
open PySem PySem.Spec PyProof.Rows

def MtM (X : Cx) (id : String) (r : V → List V → Hp → VK → Prop) : Prop :=
  ∀ (pins : List (Addr × Obj)) (s : Shared) (σ : St) (H : Hp) (x : V) (xs : List V) (v : Value) (us : List Value) (Q : VK), Inv X pins σ H s → RelV x v → Vals xs us → r x xs H Q →
    wpAny (model X.prog X.w) X.A (call (.builtin id) (v :: us)) (EP X pins σ Q) X.xe s

/-! ### lists of values -/
theorem Vals.one : ∀ {x : V} {us : List Value}, Vals [x] us → ∃ u, us = [u] ∧ RelV x u
  | _, _, .cons r .nil => ⟨_, rfl, r⟩
theorem Vals.two : ∀ {x y : V} {us : List Value}, Vals [x, y] us → ∃ u v, us = [u, v] ∧ RelV x u ∧ RelV y v
  | _, _, _, .cons r (.cons q .nil) => ⟨_, _, rfl, r, q⟩
theorem Vals.reverse {xs : List V} {us : List Value} (h : Vals xs us) : Vals xs.reverse us.reverse := by
  induction h with
  | nil => exact .nil
  | cons r t ih => rw [List.reverse_cons, List.reverse_cons]; exact Vals.append ih (.cons r .nil)

section
variable {X : Cx} {pins : List (Addr × Obj)} {σ : St} {H : Hp} {s : Shared} {l b : Addr} {xs ys zs : List V}

/-! ### the two steps: a tracked list is rewritten, a new list is laid -/
theorem Inv.lset {its its' : List Value} {n : Nat} {f : Array Value → Array Value} {t' : Nat} (I : Inv X pins σ H s) (hH : H l = some (.lst xs))
    (e : s.heap.get? l = some { cls := .type "list", data := .seq its.toArray n }) (hf : f its.toArray = its'.toArray) (hv : Vals ys its') (hz : ys.length ≤ sizeLine) :
    Inv X pins σ (upd H l (.lst ys)) { s with heap := s.heap.update l (Obj.mapSeq f), toks := t' } := by
  have q := PySem.IsL.update e f
  rw [hf] at q
  refine I.write (x := l) (e := l) (by rw [hH]; exact trivial) (.inl rfl) (fun b' u hb hu => (Heap.get?_update_other s.heap (Obj.mapSeq f) (Ne.symm hb)).trans hu) ⟨_, q⟩ ?_
  exact ⟨hz, its', _, hv, q⟩
theorem Inv.lnew {its : List Value} {t' : Nat} (I : Inv X pins σ H s) (hv : Vals ys its) (hz : ys.length ≤ sizeLine) :
    Inv X pins σ (upd H s.heap.objs.size (.lst ys)) { s with heap := s.heap.push { cls := .type "list", data := .seq its.toArray }, toks := t' } :=
  I.laid (fun _ _ q => Heap.get?_push_of_some _ q) (Nat.le_refl _) ⟨hz, its, 0, hv, Heap.get?_push_size _ rfl⟩
theorem Inv.fresh (I : Inv X pins σ H s) : H s.heap.objs.size = none := I.hok.fresh (Nat.le_refl _)
theorem Inv.lstM (I : Inv X pins σ H s) (hH : H l = some (.lst xs)) : xs.length ≤ sizeLine ∧ ∃ (its : List Value) (n : Nat), Vals xs its ∧ xs.length = its.length ∧ s.heap.get? l = some { cls := .type "list", data := .seq its.toArray n } := by
  obtain ⟨z, its, n, r, e⟩ := I.hok l _ hH
  exact ⟨z, its, n, r, r.length, e⟩

end

section
variable {X : Cx}

/-! ### methods -/
def rAppend : V → List V → Hp → VK → Prop := fun x vs H Q => ∃ l xs y, x = .ref l ∧ vs = [y] ∧ H l = some (.lst xs) ∧ xs.length < sizeLine ∧ Q .non (upd H l (.lst (xs ++ [y])))
theorem mt_append : MtM X "list.append" rAppend := by
  intro pins s σ H x vs v us Q I rx rv h
  obtain ⟨l, xs, y, rfl, rfl, hH, hz, q⟩ := h
  cases rx
  obtain ⟨u, rfl, ru⟩ := rv.one
  obtain ⟨z, its, n, r, hl, e⟩ := I.lstM hH
  refine call_meets F.slot_list_append ⟨_, e, rfl⟩ F.entry_list_append (F.args_list_append_2 _ _) (PySem.list_append l its.toArray n u (by rw [List.size_toArray]; omega)) ⟨e, ?_⟩
  refine ⟨.non, _, I.lset (its' := its ++ [u]) hH e (by simp) (r.append (.cons ru .nil)) ?_, rfl, q⟩
  rw [List.length_append, List.length_singleton]
  omega






/-! ### list + list, list += list, list * int -/
def rCat : R2 := fun x y H Q => ∃ l b xs zs, x = .ref l ∧ y = .ref b ∧ H l = some (.lst xs) ∧ H b = some (.lst zs) ∧ xs.length + zs.length ≤ sizeLine ∧ ∀ p, H p = none → Q (.ref p) (upd H p (.lst (xs ++ zs)))
theorem op_cat : OpR X (binaryOp .Add) rCat := by
  intro pins s σ H x y v u Q I rx ry h
  obtain ⟨l, b, xs, zs, rfl, rfl, hH, hB, hz, q⟩ := h
  cases rx
  cases ry
  obtain ⟨z, its, n, r, hl, e⟩ := I.lstM hH
  obtain ⟨z2, its2, n2, r2, hl2, e2⟩ := I.lstM hB
  refine PySem.P.add_list e e2 ?_ (by rw [List.size_toArray, List.size_toArray]; omega)
  have ea : its.toArray ++ its2.toArray = (its ++ its2).toArray := by simp
  rw [ea]
  exact ⟨.ref _, _, I.lnew (t' := s.toks) (r.append r2) (by rw [List.length_append]; omega), rfl, q _ I.fresh⟩

/-! ### del xs[i] -/
end

/-! ### xs[a:b] = ys -/
section
variable {prog : Program} {w : World} {A : Around} {E : Value → Shared → Prop} {s : Shared}
set_option maxRecDepth 100000 in
end

section
variable {X : Cx}
end
end L2

namespace Att
open PySem PySem.W PySem.Calls PyProof.Rows

/-! ### the script -/
theorem ints_of_wellAll {P : Params} {h : Heap} : ∀ (ns : List Int) (vs : List Value), WellAll P h vs (ns.map WData.int) → IntsAre vs ns := by
  intro ns
  induction ns with
  | nil =>
    intro vs w
    rw [List.map_nil] at w
    cases w
    exact .nil
  | cons n ns ih =>
    intro vs w
    rw [List.map_cons] at w
    cases w with
    | cons a b =>
      cases a
      exact .cons _ _ (ih _ b)

theorem script_of {l : OpenLaw} {n : Nat} (hn : l.most = some n) {P : Params} {h : Heap} {args : List WData} {vals : List Value}
    (hpre : l.row.toRowW.claim.pre args = true) (hwl : WellAll P h vals args) :
    ∃ a vs ns, vals = [Value.ref a] ∧ args = [WData.list (ns.map WData.int)] ∧ h.get? a = some { cls := .type "list", data := .seq vs.toArray } ∧ IntsAre vs ns ∧ ns.length ≤ n := by
  have hsh : WShape.hasAll [] args [.list .int] = true := (pre_splitW hpre).1
  have hc : l.pre.holds [] { args := args } = true := (pre_splitW hpre).2
  obtain ⟨d, r, rfl, h1, h2⟩ := hasAllW_cons hsh
  obtain rfl := hasAllW_nil h2
  obtain ⟨xs, rfl, h3⟩ := hasW_list h1
  obtain ⟨ns, rfl⟩ := items_int h3
  have hlen : ns.length ≤ n := by
    unfold OpenLaw.pre at hc
    have h4 : (WTm.not (.lt (.lit (.int (n : Int))) (.len (.arg 0)))).holds [] { args := [.list (ns.map .int)] } = true := by
      have h4 := (holds_andW hc).1
      rw [hn] at h4
      exact h4
    have h5 := condW_of h4 (w_not (w_lt w_lit (w_len_list (w_arg rfl))))
    rw [List.length_map] at h5
    refine Nat.le_of_not_lt fun q => ?_
    have q' : (n : Int) < ((ns.length : Nat) : Int) := by omega
    first
      | (rw [decide_eq_true q'] at h5; exact absurd h5 (by decide))
      | (simp at h5; omega)
  cases hwl with
  | cons w1 w2 =>
    cases w2
    cases w1 with
    | list ho hall => exact ⟨_, _, ns, rfl, rfl, ho, ints_of_wellAll ns _ hall, hlen⟩

theorem post_true (l : OpenLaw) (args : List WData) : l.row.toRowW.claim.post args (.bool true) args = true :=
  postW_of (r := l.row.toRowW) (X := (true == true))
    (show WShape.has [] (.bool true) .bool = true by first | rfl | decide | simp [WShape.has, WShape.arms, WShape.armsAll])
    (show (WTm.eq .res (.lit (.bool true))).value [] { args := args, res := some (.bool true), after := args } = some (.bool (true == true)) from w_eq_bool (w_res rfl) w_lit) rfl

/-! ### the attachment: holds_open's last premise (the goal 'hc' behind k_head) from a wpAny of the law's body -/

/-- the same from a codeAny of the CALL (for a layer whose function contracts speak of calls) -/
theorem attach_call {l : OpenLaw} {n : Nat} {q : Program} {loose : List Str} {XP : (Str → Option Value) → Heap → Prop} {YP : World → Heap → Prop} {d : DefRec}
    (hn : l.most = some n) (hdf : d.params.defaults = [])
    (call : ∀ (w : World) (s₀ s₁ : Shared) (mg mb : Str → Option Value) (fa : Addr) (o : Obj) (pm cd doc : Value) (a : Addr) (vs : List Value) (ns : List Int),
      Ground q loose [] XP w s₀ mg mb s₁.heap → YP w s₁.heap →
      s₁.heap.get? fa = some o → o.data = .func (docDef d.name d.params d.body d.scope pm cd doc) → s₁.heap.CodeRec cd d.name → mg d.name = some (.ref fa) →
      s₁.heap.get? a = some { cls := .type "list", data := .seq vs.toArray } → IntsAre vs ns → ns.length ≤ n → s₁.gens = #[] →
      codeAny (model l.prog w) callerA (.call (.ref fa) ⟨[.ref a], []⟩) (fun r s' => r = .ok (.ret (.bool true)) ∧ OldK s₁.heap s'.heap ∧ s'.os = s₁.os ∧ AllBare s'.gens) s₁) :
    WalkO q loose XP YP l.row.toRowW d [] (fun f vs => PySem.call f vs) := by
  intro w s₀ s₁ mg mb G Y fa o pm cd doc dV kV ho hd hcd hD hmg hg args vals as hpre hlay hrd hwl hlo
  obtain rfl : dV = .none := Dflts.none hD hdf
  obtain rfl : kV = .none := Dflts.noKw hD
  obtain ⟨a, vs, ns, rfl, rfl, hobj, hints, hlen⟩ := script_of hn hpre hwl
  refine enter_call (codeAny_mono (call w s₀ s₁ mg mb fa o pm cd doc a vs ns G Y ho (fd_plain hd) hcd hmg hobj hints hlen hg) fun r s' hq => ?_)
  obtain ⟨rfl, h2, h3, h4⟩ := hq
  exact ⟨.inl ⟨.bool true, .bool true, [], rfl, fun _ => rfl, .bool true, post_true l _, fun _ => ⟨List.Pairwise.nil, fun _ hm => (nomatch hm)⟩⟩, h2, h3, h4⟩


/-! ### rules over ANY heap (no ledger) from facts about the written part K: the library's own take a ledger (News) for what they write -/
section
variable {prog : Program} {w : World} {A : Around} {E : Value → Shared → Prop} {s : Shared} {K : Frag}





/-! the whole heap as the ledger: makes every rule that writes through a ledger a rule over any heap -/

end
end Att

namespace L2
open PySem PySem.Spec PyProof.Rows

theorem vals_ints : ∀ {vs : List Value} {ns : List Int}, IntsAre vs ns → Vals (ns.map V.int) vs
  | _, _, .nil => .nil
  | _, _, .cons n t h => .cons ⟨t, rfl⟩ (vals_ints h)

/-- nothing is tracked but the script, known to the object (or it is an object of the module) -/
def Only (H : Hp) : Prop := ∀ b, H b = none ∨ ∃ o xs, H b = some (.frz o (.lst xs))

/-- THE HEAD: the law's promise, at the heap behind the top. F, the promise of the law's def, may use that base is part of the heap (so K.In base, base.Ns mainGlobals mg stand in Mod) -/
theorem law_call {P : Program} {w : World} {K : PySem.W.Frag} {mg mb : Str → Option Value} {CX : CXT} {k : Nat} {fa a : Addr} {fd : FuncData} {x : Str} {sp : Sp} {s₁ : Shared} {vs : List Value} {ns : List Int}
    (KX : K.In s₁.heap) (hns : s₁.heap.Ns mainGlobals mg) (hb : s₁.heap.Ns builtinsNs mb) (hbb : ∀ x : Str, x ≠ "__name__" → mb x = bootBuiltins x) (hlim : s₁.heap.NoLimit) (hg : s₁.gens = #[])
    (ha : s₁.heap.get? a = some { cls := .type "list", data := .seq vs.toArray }) (hi : IntsAre vs ns) (hl : ns.length ≤ sizeLine) (hr : Room k callerA)
    (F : ∀ base : Heap, K.In base → base.Ns mainGlobals mg → FnOk P w K mg base CX k fa fd [x] sp) (hbind : ∀ (s : Shared) (u : Value), BindsTo s fd ⟨[u], []⟩ [(x, u)])
    (hsp : ∀ H : Hp, Only H → SqL K H a (ns.map V.int) → sp [.ref a] H (fun v _ => v = .bl true) fun _ _ _ => False)
    (hCX : ∀ H e s', CX [] H s₁ (fun _ _ _ => False) e s' → False) :
    codeAny (model P w) callerA (.call (.ref fa) ⟨[.ref a], []⟩) (fun r s' => r = .ok (.ret (.bool true)) ∧ OldK s₁.heap s'.heap ∧ s'.os = s₁.os ∧ AllBare s'.gens) s₁ := by
  have rv := vals_ints hi
  have lenV := hi.length
  -- from an abstract heap in which nothing but the script may be tracked
  have core : ∀ H : Hp, Only H → SqL K H a (ns.map V.int) → HOk P w H s₁.heap → (∀ b, H b ≠ none → b = a) → (H a ≠ none → K.lookup a = none) →
      codeAny (model P w) callerA (.call (.ref fa) ⟨[.ref a], []⟩) (fun r s' => r = .ok (.ret (.bool true)) ∧ OldK s₁.heap s'.heap ∧ s'.os = s₁.os ∧ AllBare s'.gens) s₁ := by
    intro H hO hS hok hA hK
    have base_of : ∀ {b : Addr} {o : Obj}, s₁.heap.get? b = some o → H b = none → (hidT s₁.heap H).get? b = some o := fun e n => hidT_get e n
    have noA : ∀ {b : Addr} {o : Obj} {es : Array DictEntry} {ep : Nat}, s₁.heap.get? b = some o → o.data = .dict es ep → H b = none := fun {b o es ep} e d => by
      cases q : H b with
      | none => rfl
      | some u =>
        have e' : b = a := hA b (by rw [q]; simp)
        subst e'
        rw [ha] at e; cases e
        have d' : Data.seq vs.toArray _ = Data.dict es ep := d
        cases d'
    have nsK : ∀ {b : Addr} {m : Str → Option Value}, s₁.heap.Ns b m → (hidT s₁.heap H).Ns b m := fun {b m} ⟨o, es, ep, e, d, r⟩ => ⟨o, es, ep, base_of e (noA e d), d, r⟩
    have hKb : K.In (hidT s₁.heap H) := fun b o e => base_of (KX b o e) (by
      cases q : H b with
      | none => rfl
      | some u =>
        have e' : b = a := hA b (by rw [q]; simp)
        subst e'
        rw [hK (by rw [q]; simp)] at e; cases e)
    have hM : Mod K mg (hidT s₁.heap H) := ⟨hKb, nsK hns, ⟨mb, nsK hb, hbb⟩, let ⟨mc, h1, h2⟩ := hlim; ⟨mc, nsK h1, h2⟩⟩
    have e0 : Env0 P w K mg (hidT s₁.heap H) callerA [] s₁ H := ⟨rfl, hM, fun b o e => of_hidT e, Nat.le_of_eq (hidT_size _ _), trivial, fun b hb => absurd (show b ∈ ([] : List Addr) from hb) (by simp), hok, .of_eq hg⟩
    refine codeAny_mono ((F _ hKb (nsK hns)).run callerA [] s₁ H ⟨[.ref a], []⟩ [.ref a] [.ref a] _ _ hr e0 (hbind s₁ (.ref a)) (.cons rfl .nil) (hsp H hO hS)) fun r s' h => ?_
    cases r with
    | error e => exact (hCX H e s' h).elim
    | ok fl =>
      cases fl with
      | next => exact False.elim h
      | brk => exact False.elim h
      | cont => exact False.elim h
      | ret u =>
        obtain ⟨v, H', os, bare, un, hok', r', q⟩ := h
        have q' : v = .bl true := q
        subst q'
        obtain rfl : u = Value.bool true := r'
        refine ⟨rfl, OldK.of_keep fun b o e => ?_, os, bare⟩
        cases q : H b with
        | none => exact un.keep b o e q (by intro z; exact absurd (show b ∈ ([] : List Addr) from z) (by simp)) (by simp)
        | some u =>
          rcases hO b with z | ⟨ob, xs, z⟩
          · rw [q] at z; cases z
          · have z2 := un.frzs b ob _ z
            obtain ⟨e1, _⟩ := hok b _ z
            obtain ⟨e2, _⟩ := hok' b _ z2
            rw [e] at e1; cases e1
            exact e2
  cases hk : K.lookup a with
  | some o =>
    -- the script is one of the module's own objects
    have e := KX a o hk
    rw [ha] at e
    cases e
    refine core (fun _ => none) (fun _ => .inl rfl) (.inr ⟨_, vs.toArray, _, hk, rfl, rfl, rfl, by rw [List.size_toArray, lenV]; exact hl, by simpa using rv⟩) (fun b u z => by have z' : (none : Option HO) = some u := z; cases z') (fun b z => absurd rfl z) fun z => absurd rfl z
  | none =>
    refine core (fun b => if b = a then some (.frz { cls := .type "list", data := .seq vs.toArray } (.lst (ns.map V.int))) else none) (fun b => ?_) (.inl (.inr ⟨{ cls := .type "list", data := .seq vs.toArray }, if_pos rfl⟩)) (fun b u z => ?_) (fun b z => ?_) fun _ => hk
    · by_cases hb : b = a
      · exact .inr ⟨_, _, if_pos hb⟩
      · exact .inl (if_neg hb)
    · by_cases hb : b = a
      · have z' := (if_pos hb).symm.trans z
        cases z'
        subst hb
        exact ⟨ha, by rw [List.length_map]; exact hl, vs, _, rv, ha⟩
      · have z' := (if_neg hb).symm.trans z
        cases z'
    · by_cases hb : b = a
      · exact hb
      · exact absurd (if_neg hb) z
end L2

namespace L2
open PySem PySem.Spec PyProof.Rows


/-- the goal that k_head leaves (case hc), from the law's promise. F gives the function object fd (K's own) once, then the promise over every base -/
theorem walk_of {l : PySem.W.OpenLaw} {n k : Nat} {q : Program} {loose : List Str} {XP : (Str → Option Value) → Heap → Prop} {YP : World → Heap → Prop} {d : DefRec} {K : Params → PySem.W.Frag} {CX : World → CXT} {sp : World → Sp} {x : Str}
    (hn : l.most = some n) (hn2 : n ≤ sizeLine) (hdf : d.params.defaults = []) (hr : Room k callerA)
    (hY : ∀ (w : World) (h : Heap), YP w h → (K w.params).In h)
    (F : ∀ (w : World) (mg : Str → Option Value) (fa : Addr) (h : Heap), (K w.params).In h → h.Ns mainGlobals mg → mg d.name = some (.ref fa) →
      ∃ fd : FuncData, (∀ (s : Shared) (u : Value), BindsTo s fd ⟨[u], []⟩ [(x, u)]) ∧
        ∀ base : Heap, (K w.params).In base → base.Ns mainGlobals mg → FnOk l.prog w (K w.params) mg base (CX w) k fa fd [x] (sp w))
    (hsp : ∀ (w : World) (H : Hp) (a : Addr) (ns : List Int), ns.length ≤ n → Only H → SqL (K w.params) H a (ns.map V.int) → sp w [.ref a] H (fun v _ => v = .bl true) fun _ _ _ => False)
    (hCX : ∀ (w : World) (H : Hp) (s : Shared) (e : Value) (s' : Shared), CX w [] H s (fun _ _ _ => False) e s' → False) :
    PySem.W.WalkO q loose XP YP l.row.toRowW d [] (fun f vs => PySem.call f vs) := by
  refine Att.attach_call hn hdf fun w s₀ s₁ mg mb fa o pm cd doc a vs ns G Y ho hd hcd hmg hobj hints hlen hg => ?_
  have KX := hY w _ Y
  obtain ⟨fd, hb, hF⟩ := F w mg fa _ KX G.T.g hmg
  exact law_call KX G.T.g G.T.b G.T.builtins G.T.nolimit hg hobj hints (Nat.le_trans hlen hn2) hr hF hb (fun H hO hS => hsp w H a ns hlen hO hS) fun H e s' => hCX w H s₁ e s'
end L2

/- THE LAST THEOREM (shape; LID, My.* are yours):
   My.Adr: a structure of the addresses that your layer names (classes, functions); My.Txt K t: a structure (Prop) of the equations over K;
   My.txt_mk : {K} {implicit addresses ..} (e1 : nsIn K mainGlobals "law" = some (some (.ref f))) (e2 : K.lookup f = some ⟨oc, od, .func (fnOf "law" "law" params body scope dV kV doc pm an cdv ct), sl⟩) (e3 : codeIn K cdv "law" = true) .. : ∃ t, My.Txt K t

set_option maxRecDepth 100000 in
set_option maxHeartbeats 0 in
theorem PySem.Challenge.cw_LID_holds : PySem.Challenge.rw_LID.Holds := by
  w_on; o_law; k_head; (case hw => w_witness2)
  k_fill
  refine L2.walk_of (l := PySem.Challenge.rw_LID) (n := 63) (k := 40) (x := "script") (CX := fun w => ..) (sp := fun _ => My.sp_law) rfl (by decide) rfl ⟨rfl, by decide, by decide⟩ (fun w h Y => PySem.W.kIn_of Y) ?F ?S ?C
  case F =>
    intro w mg fa h KX G hmg
    have T : ∃ t, My.Txt (L2.KOf KX) t := by
      dsimp only [L2.KOf]                          -- K must stand as «<heap const> w.params» for k_is
      refine' My.txt_mk ?e1 ?e2 ?e3 ..
      (case e1 => PySem.W.k_is)                    -- in the order: a name -> its address -> its object -> its parts
      (case e2 => PySem.W.k_is)
      ..
    obtain ⟨t, T⟩ := T
    have e0 := hmg.symm.trans (PySem.W.mg_of KX G T.law)
    cases e0                                       -- fa is the law's own address
    exact ⟨_, fun s u => .of_eq rfl, fun base kb nb => My.law_fn T kb nb⟩     -- if «.of_eq rfl» comes too early: refine' ⟨_, ?b, fun base kb nb => My.law_fn T kb nb⟩; exact fun s u => .of_eq rfl
  case S => exact fun w H a ns hl hO hS => ..
  case C => exact ..
(the tactic k_is has no namespace: write k_is) -/

/-! SHORT WORDS over the layer: a def of the text, its body, what a loop and a test want. -/
namespace L2
open PySem PySem.Spec PyProof.Rows

/-! ### the text by places -/
def defArgs (s : Stmt) : Arguments := match s with
  | .FunctionDef _ a _ _ _ _ _ _ _ _ => a
  | _ => { posonlyargs := [], args := [], vararg := none, kwonlyargs := [], kw_defaults := [], kwarg := none, defaults := [] }
def defBody (s : Stmt) : List Stmt := match s with
  | .FunctionDef _ _ b _ _ _ _ _ _ _ => b
  | _ => []
def defScope (s : Stmt) : Scope := match s with
  | .FunctionDef _ _ _ _ _ _ sc _ _ _ => sc
  | _ => { kind := .function, names := [], isGenerator := false, isCoroutine := false }

/-! ### no exception leaves a def -/
abbrev CX0 : CXT := fun _ _ _ _ _ _ => False
abbrev E0 : XK := fun _ _ _ => False
theorem pass0 {X : Cx} : Passes CX0 X E0 := fun _ _ _ _ _ _ _ h => h.elim

/-! ### a def (or method) of the text as it stands behind the top -/
structure Fun (K : PySem.W.Frag) (x qual : Str) (st : Stmt) (f : Addr) (fd : FuncData) : Prop where
  ex : ∃ (oc : Value) (od : Option Addr) (kV doc pm : Value) (an : Option Addr) (cdv ct : Value) (osl : Array (Option Value)),
    fd = PySem.W.fnOf x qual (defArgs st) (defBody st) (defScope st) .none kV doc pm an cdv ct ∧ K.lookup f = some ⟨oc, od, .func fd, osl⟩ ∧ PySem.W.codeIn K cdv qual = true
  kp : PySem.W.keepIn K (.ref f) = true
section
variable {P : Program} {w : World} {K : PySem.W.Frag} {mg : Str → Option Value} {base : Heap}
/-- THE RULE for a def: its body as a term of rules, and the reading of that term -/
theorem Fun.ok {x qual : Str} {st : Stmt} {f : Addr} {fd : FuncData} {N ps : List Str} {k : Nat} {sp : Sp} (F : Fun K x qual st f fd) (S : FnScope N ps (defScope st)) (len : ∀ vs H Q E, sp vs H Q E → vs.length = ps.length)
    (hbody : ∀ (cdv : Value) (A : Around) (outer : List Env) (s : Shared) (H : Hp) (vs : List V) (Q : VK) (E : XK), Room k (A.deeper (envOfC qual (defScope st) s.heap.objs.size f cdv)) → sp vs H Q E →
      ∃ t, PSs (cxOf CX0 P w K mg base N qual (defScope st) f cdv A outer s H E).nox (defBody st) t ∧ t { nx := fun _ H' => Q .non H', rt := Q } (start N vs) H) : FnOk P w K mg base CX0 (k + 1) f fd ps sp := by
  obtain ⟨oc, od, kV, doc, pm, an, cdv, ct, osl, rfl, lk, hcd⟩ := F.ex
  refine fn_of lk hcd S len fun A outer s H vs Q E hr hsp => ?_
  obtain ⟨t, h, q⟩ := hbody cdv A outer s H vs Q E hr hsp
  exact ⟨t, h.nox, q⟩
/-- how its arguments bind (no defaults): h is «fun _ _ _ _ _ _ us hl => match us, hl with | [_, _], _ => rfl», one _ a parameter -/
theorem Fun.binds {x qual : Str} {st : Stmt} {f : Addr} {fd : FuncData} {ps : List Str} (F : Fun K x qual st f fd)
    (h : ∀ (kV doc pm : Value) (an : Option Addr) (cdv ct : Value) (us : List Value), us.length = ps.length → bindArgs (PySem.W.fnOf x qual (defArgs st) (defBody st) (defScope st) .none kV doc pm an cdv ct) ⟨us, []⟩ = pure (ps.zip us)) : Binds K fd ps [] := by
  obtain ⟨oc, od, kV, doc, pm, an, cdv, ct, osl, rfl, lk, hcd⟩ := F.ex
  exact .all (h kV doc pm an cdv ct)
theorem fun_mk {x qual : Str} {st : Stmt} {f : Addr} {oc : Value} {od an : Option Addr} {osl : Array (Option Value)} {kV doc pm cdv ct : Value} (l : K.lookup f = some ⟨oc, od, .func (PySem.W.fnOf x qual (defArgs st) (defBody st) (defScope st) .none kV doc pm an cdv ct), osl⟩)
    (c : PySem.W.codeIn K cdv qual = true) (k : PySem.W.keepIn K (.ref f) = true) : Fun K x qual st f (PySem.W.fnOf x qual (defArgs st) (defBody st) (defScope st) .none kV doc pm an cdv ct) := ⟨⟨oc, od, kV, doc, pm, an, cdv, ct, osl, rfl, l, c⟩, k⟩
end
theorem hu_of {A : Around} {k : Nat} (hr : Room k A) : A.units + 1 < cLine := Nat.lt_of_le_of_lt (Nat.add_le_add_left (by decide : 1 ≤ 64) _) hr.units

/-! ### expressions in short: the name that stands in the i-th slot -/
section
variable {X : Cx}
theorem pv (i : Nat) {x : Str} {pos : Pos} (hN : X.N[i]? = some x := by rfl) (hv : Vis X.env.scope x := by first | exact Or.inl rfl | exact Or.inr (Or.inl rfl) | exact Or.inr (Or.inr rfl)) (hd : (x == ("__debug__" : Str)) = false := by decide)
    (hcd : (x == ("__classdict__" : Str)) = false := by decide) : PE X (.Name x pos) (tVar i) := pe_var hN hv hd hcd
end

/-! ### tests -/
theorem iteF {A B : Prop} (h : B) : if false = true then A else B := by
  rw [if_neg Bool.false_ne_true]
  exact h
theorem iteT {A B : Prop} (h : A) : if true = true then A else B := by
  rw [if_pos rfl]
  exact h
theorem ite2 {c A B : Prop} [Decidable c] (h1 : c → A) (h2 : ¬ c → B) : if c then A else B := by
  by_cases h : c
  · rw [if_pos h]
    exact h1 h
  · rw [if_neg h]
    exact h2 h
theorem iteNS {c A B : Prop} [Decidable c] (hc : c) (h : B) : if (!decide c) = true then A else B := by
  rw [decide_eq_true hc]
  exact iteF h

/-! ### heaps -/

end L2
end
section
/-! a list comprehension of one clause, in the layer's words -/
namespace L2
open PySem PySem.Spec PyProof.Rows

/-! ### the closure -/
def closOf (cells : List (Str × Addr)) : List (Str × NameKind) → List (Str × Addr) → List (Str × Addr)
  | [], acc => acc
  | (n, k) :: r, acc => if k = .free then closOf cells r ((n, (cells.lookup n).getD 0) :: acc) else closOf cells r acc
theorem closFor_go {env : Env} : ∀ (l : List (Str × NameKind)) (acc : List (Str × Addr)), (∀ y ∈ l, y.2 = .free → ∃ c, env.cells.lookup y.1 = some c) →
    (forIn l acc fun (x : Str × NameKind) (cs : List (Str × Addr)) => (if (x.2 == NameKind.free) = true then (do let a ← cellOf env x.1; pure (ForInStep.yield ((x.1, a) :: cs))) else pure (ForInStep.yield cs) : Sem (ForInStep (List (Str × Addr))))) = pure (closOf env.cells l acc)
  | [], acc, _ => rfl
  | (n, k) :: r, acc, h => by
    have hr : ∀ y ∈ r, y.2 = .free → ∃ c, env.cells.lookup y.1 = some c := fun y hy => h y (List.mem_cons_of_mem _ hy)
    rw [List.forIn_cons]
    by_cases hk : k = .free
    · subst hk
      obtain ⟨c, hc⟩ := h (n, .free) List.mem_cons_self rfl
      have e : cellOf env n = pure c := by unfold cellOf; rw [hc]
      have e2 : closOf env.cells ((n, NameKind.free) :: r) acc = closOf env.cells r ((n, c) :: acc) := by
        show (if NameKind.free = NameKind.free then closOf env.cells r ((n, (env.cells.lookup n).getD 0) :: acc) else _) = _
        rw [if_pos rfl, hc]; rfl
      rw [e2, ← closFor_go r ((n, c) :: acc) hr]
      show ((do let a ← cellOf env n; pure (ForInStep.yield ((n, a) :: acc))) >>= _) = _
      rw [e]; rfl
    · have hb : (k == NameKind.free) = false := by cases k <;> first | rfl | exact absurd rfl hk
      have e2 : closOf env.cells ((n, k) :: r) acc = closOf env.cells r acc := by
        show (if k = NameKind.free then _ else closOf env.cells r acc) = _
        rw [if_neg hk]
      rw [e2, ← closFor_go r acc hr]
      show ((if (k == NameKind.free) = true then _ else pure (ForInStep.yield acc)) >>= _) = _
      rw [hb]; rfl
theorem closFor {env : Env} {sc : Scope} (h : ∀ y ∈ sc.names, y.2 = .free → ∃ c, env.cells.lookup y.1 = some c) : closureFor sc env = pure (closOf env.cells sc.names []) := by
  unfold closureFor
  show (forIn sc.names [] _ >>= fun cs => pure cs) = _
  rw [show (forIn sc.names ([] : List (Str × Addr)) _ : Sem _) = _ from closFor_go sc.names [] h]
  rfl
theorem closOf_sub {cells : List (Str × Addr)} : ∀ (l : List (Str × NameKind)) (acc : List (Str × Addr)), (∀ y ∈ l, y.2 = .free → ∃ c, cells.lookup y.1 = some c) →
    (∀ x c, acc.lookup x = some c → cells.lookup x = some c) → ∀ x c, (closOf cells l acc).lookup x = some c → cells.lookup x = some c
  | [], acc, _, ha => ha
  | (n, k) :: r, acc, h, ha => by
    have hr : ∀ y ∈ r, y.2 = .free → ∃ c, cells.lookup y.1 = some c := fun y hy => h y (List.mem_cons_of_mem _ hy)
    unfold closOf
    by_cases hk : k = .free
    · rw [if_pos hk]
      obtain ⟨c0, hc⟩ := h (n, k) List.mem_cons_self hk
      refine closOf_sub r _ hr fun x c e => ?_
      rw [List.lookup_cons] at e
      cases hx : x == n with
      | true =>
        rw [hx] at e
        have exn : x = n := eq_of_beq hx
        subst exn
        have hc' : cells.lookup x = some c0 := hc
        rw [hc'] at e ⊢
        exact e
      | false => rw [hx] at e; exact ha x c e
    · rw [if_neg hk]; exact closOf_sub r acc hr ha
theorem closOf_has {cells : List (Str × Addr)} {x : Str} : ∀ (l : List (Str × NameKind)) (acc : List (Str × Addr)), ((x, NameKind.free) ∈ l ∨ ∃ c, acc.lookup x = some c) → ∃ c, (closOf cells l acc).lookup x = some c
  | [], acc, h => by
    rcases h with h | h
    · cases h
    · exact h
  | (n, k) :: r, acc, h => by
    unfold closOf
    by_cases hk : k = .free
    · rw [if_pos hk]
      refine closOf_has r _ ?_
      by_cases e : x = n
      · subst e
        exact .inr ⟨_, by rw [List.lookup_cons, beq_self_eq_true]⟩
      · rcases h with h | ⟨c, h⟩
        · rcases List.mem_cons.mp h with q | q
          · cases q; exact absurd rfl e
          · exact .inl q
        · refine .inr ⟨c, ?_⟩
          rw [List.lookup_cons, beq_eq_false_iff_ne.mpr e]
          exact h
    · rw [if_neg hk]
      refine closOf_has r _ ?_
      rcases h with h | h
      · rcases List.mem_cons.mp h with q | q
        · cases q; exact absurd rfl hk
        · exact .inl q
      · exact .inr h
theorem mem_lookup {x : Str} {k : NameKind} : ∀ {l : List (Str × NameKind)}, l.lookup x = some k → (x, k) ∈ l
  | [], h => by cases h
  | (n, k') :: r, h => by
    rw [List.lookup_cons] at h
    cases hx : x == n with
    | true => rw [hx] at h; cases h; rw [eq_of_beq hx]; exact List.mem_cons_self
    | false => rw [hx] at h; exact List.mem_cons_of_mem _ (mem_lookup h)
/-- what the block's scope says of a name that is no local -/
theorem relab_free {env : Env} {x : Str} {k : NameKind} (hk : k = .cell ∨ k = .free) : ∀ {l : List (Str × NameKind)}, (∀ y ∈ l, y.2 ≠ .cell) →
    (l.map fun (n, k) => if (k == NameKind.free && env.scope.kind == .function && env.kindOf n == some .cell) then (n, NameKind.cell) else (n, k)).lookup x = some k → l.lookup x = some .free
  | [], _, h => by simp at h
  | (n, k') :: r, hc, h => by
    have ih := @relab_free env x k hk r (fun y hy => hc y (List.mem_cons_of_mem _ hy))
    have hc0 : k' ≠ .cell := hc (n, k') List.mem_cons_self
    rw [List.lookup_cons]
    rw [List.map_cons] at h
    dsimp only at h
    by_cases hb : (k' == NameKind.free && env.scope.kind == .function && env.kindOf n == some .cell) = true
    · rw [if_pos hb, List.lookup_cons] at h
      cases hx : x == n with
      | true =>
        have : k' = .free := by
          simp only [Bool.and_eq_true] at hb
          exact eq_of_beq hb.1.1
        rw [this]
      | false => rw [hx] at h; exact ih h
    · rw [if_neg hb, List.lookup_cons] at h
      cases hx : x == n with
      | true =>
        rw [hx] at h
        have e : k' = k := Option.some.inj h
        rcases hk with q | q
        · exact absurd (e.trans q) hc0
        · rw [e, q]
      | false => rw [hx] at h; exact ih h
theorem free_relab {env : Env} {x : Str} : ∀ {l : List (Str × NameKind)}, l.lookup x = some .free →
    (l.map fun (n, k) => if (k == NameKind.free && env.scope.kind == .function && env.kindOf n == some .cell) then (n, NameKind.cell) else (n, k)).lookup x = some .cell ∨
    (l.map fun (n, k) => if (k == NameKind.free && env.scope.kind == .function && env.kindOf n == some .cell) then (n, NameKind.cell) else (n, k)).lookup x = some .free
  | [], h => by cases h
  | (n, k') :: r, h => by
    have ih := @free_relab env x r
    rw [List.lookup_cons] at h
    rw [List.map_cons]
    dsimp only
    by_cases hb : (k' == NameKind.free && env.scope.kind == .function && env.kindOf n == some .cell) = true
    · rw [if_pos hb, List.lookup_cons]
      cases hx : x == n with
      | true => exact .inl rfl
      | false => rw [hx] at h; exact ih h
    · rw [if_neg hb, List.lookup_cons]
      cases hx : x == n with
      | true => rw [hx] at h; exact .inr h
      | false => rw [hx] at h; exact ih h

/-! ### the loop's turn, with the step ahead of the store -/
section
variable {prog : Program} {w : World} {A : Around} {R : Result → Shared → Prop} {s : Shared}
abbrev testsOf (ifs : List Expr) (env : Env) : Sem Bool := forIn ifs true fun c r => if r = true then do let ok ← isTrue c env (eval c env); pure (ForInStep.yield ok) else pure (ForInStep.yield r)
theorem comp_turns {elt tg iter : Expr} {ifs : List Expr} {sc : Scope} {pos : Pos} {it acc : Value} {env : Env} (J : Nat → Shared → Prop)
    (turn : ∀ n z, J n z → wpAny (model prog w) A (pyNext it) (fun r z1 => match r with
      | none => R (.ok .next) z1
      | some v => wpAny (model prog w) A (letOwnedTupleGo tg it v) (fun _ z2 => wpAny (model prog w) A (assign tg env v) (fun _ z3 => wpAny (model prog w) A (testsOf ifs env) (fun ok z4 =>
          if ok = true then wpAny (model prog w) A (eval elt env) (fun x z5 => wpAny (model prog w) A (call (.builtin "list.append") [acc, x]) (fun _ z6 => ∃ k, k < n ∧ J k z6) (fun _ _ => False) z5) (fun _ _ => False) z4
          else ∃ k, k < n ∧ J k z4) (fun _ _ => False) z3) (fun _ _ => False) z2) (fun _ _ => False) z1) (fun _ _ => False) z)
    (n : Nat) (h : J n s) : codeAny (model prog w) A (.compLoop (.ListComp elt [⟨tg, iter, ifs, 0⟩] sc pos) 0 it acc env) R s := by
  refine codeAny_loop rfl J (fun k z hJ => ?_) n h
  have noE : ∀ {α : Type} {t : Sem α} {Q : α → Shared → Prop} {E : Value → Shared → Prop} {z : Shared}, wpAny (model prog w) A t Q (fun _ _ => False) z → wpAny (model prog w) A t Q E z :=
    fun q => wpAny_mono q (fun _ _ a => a) fun _ _ f => f.elim
  show wpAny _ A ((compTurn (.ListComp elt [⟨tg, iter, ifs, 0⟩] sc pos) 0 it acc env).onRaise (fun x => do noteFrame x env; theTreesLotGoes x)) _ _ z
  refine wpAny_noted ?_
  rw [compTurn_list]
  refine wpAny_bind (wpAny_standAt (wpAny_bind (wpAny_mono (turn k z hJ) (fun r z1 q1 => ?_) fun _ _ f => f.elim)))
  cases r with
  | none => exact wpAny_pure q1
  | some v =>
    refine wpAny_bind (wpAny_mono q1 (fun _ z2 q2 => ?_) fun _ _ f => f.elim)
    refine wpAny_bind (wpAny_mono q2 (fun _ z3 q3 => ?_) fun _ _ f => f.elim)
    refine wpAny_bind (wpAny_mono q3 (fun ok z4 q4 => ?_) fun _ _ f => f.elim)
    cases ok with
    | false => exact wpAny_pure ⟨rfl, q4⟩
    | true =>
      refine wpAny_bind (wpAny_bind (wpAny_mono q4 (fun x z5 q5 => ?_) fun _ _ f => f.elim))
      exact wpAny_bind (wpAny_mono q5 (fun _ z6 q6 => wpAny_pure (wpAny_pure ⟨rfl, q6⟩)) fun _ _ f => f.elim)
end

/-! ### the block -/
def blk (X : Cx) (sc : Scope) (cl : List (Str × Addr)) (C : Addr) (Nc : List Str) (fp : List Addr) (s : Shared) (H : Hp) : Cx where
  prog := X.prog
  w := X.w
  K := X.K
  mg := X.mg
  base := X.base
  A := X.A
  N := Nc
  s₀ := s
  H₀ := H
  env := compEnvC sc cl C X.env
  outer := X.stack
  stack := X.stack
  ex := fp
  fn := fun _ => false
  calm := X.calm
  pn := []
  xe := fun _ _ => False
/-- the block's slots at its entry: its own names are unset, the free ones have the outer slot's value -/
def blkσ (m : List (Option Nat)) (σ : St) : St := m.map fun o => match o with
  | none => none
  | some i => (σ[i]?).getD none
/-- the clause's tests -/
def PTs (X : Cx) (ifs : List Expr) (t : TT) : Prop :=
  ∀ (pins : List (Addr × Obj)) (s : Shared) (σ : St) (H : Hp) (Q : Bool → Hp → Prop), Inv X pins σ H s → t σ H Q → wpAny (model X.prog X.w) X.A (testsOf ifs X.env) (TP X pins σ Q) X.xe s
def tTrue : TT := fun _ H Q => Q true H
theorem pts_nil {X : Cx} : PTs X [] tTrue := fun _ _ _ H _ I h => wpAny_tests_nil ⟨H, I, h⟩
theorem pts_one {X : Cx} {c : Expr} {t : TT} (h : PT X c t) : PTs X [c] t := fun pins s σ H Q I q => wpAny_tests_one (h pins s σ H Q I q)

/-- what a comprehension wants behind its source -/
def CompW (m : List (Option Nat)) (g : TG) (tt : TT) (te : TE) (σ : St) (Q : VK) (J : It) (H1 : Hp) : Prop := ∀ D, H1 D = none → ∃ W : Nat → Nat → St → Hp → List V → Prop,
    (∃ n, W 0 n (blkσ m σ) (upd H1 D (.lst [])) []) ∧ ∀ i n σ' H' ys, W i n σ' H' ys → H' D = some (.lst ys) ∧ ys.length < sizeLine ∧
      ((J.stop i H' ∧ Q (.ref D) H') ∨ (J.go i H' ∧ ∃ N : St → Hp → List V → Prop, (∀ σ2 H2 zs, N σ2 H2 zs → ∃ n', n' < n ∧ W (i + 1) n' σ2 H2 zs) ∧ ∀ x H'', J.yld i H' x H'' → g x σ' H'' fun σ2 H2 => tt σ2 H2 fun b H3 =>
        if b = true then te σ2 H3 fun v H4 => H4 D = some (.lst ys) ∧ N σ2 (upd H4 D (.lst (ys ++ [v]))) (ys ++ [v])
        else N σ2 H3 ys))
def tComp (m : List (Option Nat)) (wi : TI) (g : TG) (tt : TT) (te : TE) : TE := fun σ H Q => wi σ H (CompW m g tt te σ Q)

theorem Un.sameBut {fs ex : List Addr} {H H' : Hp} {h h1 h2 : Heap} {C : Addr} (u : Un fs ex H H' h h1) (sb : Heap.SameBut C h1 h2) (hC : h.objs.size ≤ C) : Un fs ex H H' h h2 := by
  have ne : ∀ {b : Addr} {o : Obj}, h.get? b = some o → b ≠ C := fun e => Nat.ne_of_lt (Nat.lt_of_lt_of_le (Heap.lt_size e) hC)
  refine ⟨fun b o e n hf hx => (sb.2 b (ne e)).trans (u.keep b o e n hf hx), fun b o e n hf hx => ?_, u.free, fun b o e hx => ?_, u.tups, u.frzs, u.tbls⟩
  · obtain ⟨sl, q⟩ := u.slot b o e n hf hx
    exact ⟨sl, (sb.2 b (ne e)).trans q⟩
  · obtain ⟨o', q⟩ := u.there b o e hx
    exact ⟨o', (sb.2 b (ne e)).trans q⟩
theorem HOk.sameBut {P : Program} {w : World} {H : Hp} {h1 h2 : Heap} {C : Addr} (x : HOk P w H h1) (sb : Heap.SameBut C h1 h2) (hC : H C = none) : HOk P w H h2 := fun a o e =>
  (x a o e).stay (fun b u hb q => (sb.2 b (by
    rintro rfl
    rcases hb with rfl | hb
    · rw [hC] at e; cases e
    · rw [hC] at hb; cases hb)).trans q) (fun _ q => q) fun _ _ q => q

section
variable {X : Cx} {tg iter elt : Expr} {ifs : List Expr} {sc : Scope} {pos : Pos} {wi : TI} {g : TG} {tt : TT} {te : TE} {m : List (Option Nat)} {Nc : List Str}

/-- where the free names of the block stand in the outer slots -/
def FreeAt (X : Cx) (sc : Scope) (Nc : List Str) (m : List (Option Nat)) : Prop :=
  m.length = Nc.length ∧ ∀ (k i : Nat), m[k]? = some (some i) → ∃ x, Nc[k]? = some x ∧ X.N[i]? = some x ∧ sc.names.lookup x = some .free

theorem blk_start {pins : List (Addr × Obj)} {s : Shared} {σ : St} {H : Hp} {fp : List Addr} (I : Inv X pins σ H s) (hkind : sc.kind = .function) (hcell : ∀ y ∈ sc.names, y.2 ≠ .cell)
    (hfree : ∀ y ∈ sc.names, y.2 = .free → X.env.scope.names.lookup y.1 = some .cell ∨ X.env.scope.names.lookup y.1 = some .free) (hm : FreeAt X sc Nc m) (hfp : ∀ b ∈ fp, FpOk X pins H b) (hlt : ∀ b ∈ fp, b < s.heap.objs.size)
    {h1 : Heap} {tk : Nat} {md : Str → Option Value} (hns : h1.Ns s.heap.objs.size md) (old : ∀ b o, s.heap.get? b = some o → h1.get? b = some o) :
    Inv (blk X sc (closOf X.env.cells sc.names []) s.heap.objs.size Nc fp s H) [] (blkσ m σ) H { s with heap := h1, toks := tk } := by
  have hcl : ∀ y ∈ sc.names, y.2 = .free → ∃ c, X.env.cells.lookup y.1 = some c := fun y hy hf => I.ok.has y.1 (hfree y hy hf)
  have sub : ∀ x c, (closOf X.env.cells sc.names []).lookup x = some c → X.env.cells.lookup x = some c := closOf_sub sc.names [] hcl (fun x c e => by cases e)
  have isfree : ∀ x, (compEnvC sc (closOf X.env.cells sc.names []) s.heap.objs.size X.env).kindOf x = some .cell ∨ (compEnvC sc (closOf X.env.cells sc.names []) s.heap.objs.size X.env).kindOf x = some .free → sc.names.lookup x = some .free := fun x h => by
    rcases h with h | h
    · exact relab_free (.inl rfl) hcell h
    · exact relab_free (.inr rfl) hcell h
  refine ⟨⟨I.ok.mod, hkind, I.ok.glob, I.ok.blt, Nat.le_refl _, fun x y c h1 h2 => I.ok.inj x y c (sub x c h1) (sub y c h2), fun x hx => ?_, fun x c hf _ => ?_, I.ok.hd, I.ok.frames, .inl rfl, fun b hb => ?_, I.bs, Nat.le_trans I.ok.bsz I.sz, fun b o e hb => ?_, fun b hb hz => ?_, I.stack, I.stkFree⟩,
    rfl, I.bare, Un.kept old, ⟨md, hns, fun k x v e1 e2 e3 => ?_⟩, fun x c e => ?_, I.hok.fresh (Nat.le_refl _), fun x c e => I.freeC x c (sub x c e), fun p hp => absurd (show p ∈ ([] : List (Addr × Obj)) from hp) (by simp), I.hok.kept old, ?_⟩
  · exact closOf_has sc.names [] (.inl (mem_lookup (isfree x hx)))
  · exact absurd (show false = true from hf) Bool.false_ne_true
  · obtain ⟨f0, f1, f2, f3, f4, f5⟩ := hfp b hb
    exact ⟨Nat.ne_of_lt (hlt b hb), fun x c e => f4 x c (sub x c e)⟩
  · obtain ⟨f0, f1, f2, f3, f4, f5⟩ := hfp b hb
    rcases f3 with q | q
    · exact I.ok.noex b o e q
    · exact absurd (Nat.lt_of_lt_of_le (Heap.lt_size (I.ok.bs b o e).1) q) (Nat.lt_irrefl _)
  · obtain ⟨f0, f1, f2, f3, f4, f5⟩ := hfp b hb
    rcases List.mem_cons.mp (I.stkSub b hz) with q | q
    · exact f1 q
    · exact f2 q
  · have e2' : ∃ i, m[k]? = some (some i) ∧ σ[i]? = some (some v) := by
      unfold blkσ at e2
      rw [List.getElem?_map] at e2
      cases q : m[k]? with
      | none => rw [q] at e2; cases e2
      | some o =>
        rw [q] at e2
        cases o with
        | none => cases e2
        | some i =>
          refine ⟨i, rfl, ?_⟩
          have e2 : (σ[i]?).getD none = some v := Option.some.inj e2
          cases r : σ[i]? with
          | none => rw [r] at e2; cases e2
          | some z => rw [r] at e2; exact congrArg some e2
    obtain ⟨i, q1, q2⟩ := e2'
    obtain ⟨x', a1, a2, a3⟩ := hm.2 k i q1
    have e1' : Nc[k]? = some x := e1
    rw [e1'] at a1
    cases a1
    have vis := hfree (x, .free) (mem_lookup a3) rfl
    obtain ⟨m0, hn0, hl0⟩ := I.loc
    obtain ⟨u, r, l⟩ := hl0 i x v a2 q2 (.inr vis)
    refine ⟨u, r, .inr ⟨free_relab a3, ?_⟩⟩
    obtain ⟨c, hc⟩ := closOf_has (cells := X.env.cells) (x := x) sc.names [] (.inl (mem_lookup a3))
    rcases l with ⟨lk, _⟩ | ⟨_, c', hc', o, ho, hd⟩
    · have lk' : X.env.scope.names.lookup x = some .local := lk
      rcases vis with z | z
      · rw [lk'] at z; cases z
      · rw [lk'] at z; cases z
    · have := sub x c hc
      rw [hc'] at this
      cases this
      exact ⟨c, hc, o, old _ _ ho, hd⟩
  · obtain ⟨v, o, ho, hd⟩ := I.cell x c (sub x c e)
    exact ⟨v, o, old _ _ ho, hd⟩
  · show (blkσ m σ).length = Nc.length
    unfold blkσ
    rw [List.length_map]
    exact hm.1

theorem pe_comp (hc : X.calm = true) (hi : PI X tg iter wi) (hkind : sc.kind = .function) (hcell : ∀ y ∈ sc.names, y.2 ≠ .cell) (hnames : ∀ y ∈ sc.names, y.2 = .local → sc.names.lookup y.1 = some .local)
    (hfree : ∀ y ∈ sc.names, y.2 = .free → X.env.scope.names.lookup y.1 = some .cell ∨ X.env.scope.names.lookup y.1 = some .free) (hm : FreeAt X sc Nc m)
    (hg : ∀ cl C fp s H, PG (blk X sc cl C Nc fp s H) tg g) (ht : ∀ cl C fp s H, PTs (blk X sc cl C Nc fp s H) ifs tt) (he : ∀ cl C fp s H, PE (blk X sc cl C Nc fp s H) elt te)
    (hs : ∀ x, foldedSetIterable iter X.env x = pure x := by intro _; rfl) : PE X (.ListComp elt [⟨tg, iter, ifs, 0⟩] sc pos) (tComp m wi g tt te) := by
  intro pins s σ H Q I h
  rw [eval_ListComp]
  have hcl : ∀ y ∈ sc.names, y.2 = .free → ∃ c, X.env.cells.lookup y.1 = some c := fun y hy hf => I.ok.has y.1 (hfree y hy hf)
  refine wpAny_comprehension_free (use := none) rfl hs (closFor hcl) hkind hnames (thn (hi pins s σ H _ I h) fun v s1 h1 => thn h1 fun itv s2 h2 => ?_)
  obtain ⟨it, fp, tn, J, H2, e, I2, T, st2, f2, hQ⟩ := h2
  subst e
  have hlt : ∀ b ∈ fp, b < s2.heap.objs.size := fun b hb => by
    obtain ⟨o, e, _⟩ := T.obj 0 _ st2 b hb
    exact Heap.lt_size e
  refine wpAny_newObj_type (wpAny_newFunctionEnv hcell (by intro y hy; simp at hy) (fun h₁ hns₁ hsb₁ => ?_) hkind)
  have I3 : Inv X pins σ (upd H2 s2.heap.objs.size (.lst [])) { s2 with heap := s2.heap.push { cls := .type "list", data := .seq ([] : List Value).toArray } } := I2.lnew (t' := s2.toks) .nil (Nat.zero_le _)
  obtain ⟨W, ⟨n0, w0⟩, turn⟩ := hQ s2.heap.objs.size I2.fresh
  have hD3 : ∀ b ∈ fp, b ≠ s2.heap.objs.size := fun b hb => Nat.ne_of_lt (hlt b hb)
  have f3 : ∀ b ∈ fp, FpOk X pins (upd H2 s2.heap.objs.size (.lst [])) b := fun b hb => by
    obtain ⟨a0, a1⟩ := f2 b hb
    exact ⟨by rw [upd_ne (hD3 b hb)]; exact a0, a1⟩
  generalize hE : ({ s2 with heap := s2.heap.push { cls := .type "list", data := .seq ([] : List Value).toArray } } : Shared) = s3 at I3 hns₁ hsb₁ ⊢
  generalize hH3 : upd H2 s2.heap.objs.size (.lst []) = H3 at I3 f3 w0
  have hsz3 : s3.heap.objs.size = s2.heap.objs.size + 1 := by rw [← hE]; exact Heap.size_push _ _
  have old : ∀ b o, s3.heap.get? b = some o → h₁.get? b = some o := fun b o e => hsb₁.extBut b o (Nat.ne_of_lt (Heap.lt_size e)) (Heap.get?_push_of_some _ e)
  have old2 : ∀ b o, s2.heap.get? b = some o → h₁.get? b = some o := fun b o e => old b o (by rw [← hE]; exact Heap.get?_push_of_some _ e)
  have I4 := blk_start (fp := fp) (tk := s3.toks + ([] : List (Str × Value)).length) I3 hkind hcell hfree hm f3 (fun b hb => show b < s3.heap.objs.size by rw [hsz3]; exact Nat.lt_succ_of_lt (hlt b hb)) hns₁ old
  have st4 : tn 0 h₁ := T.keep _ _ _ st2 fun b hb o e => old2 b o e
  have loop : codeAny (model X.prog X.w) X.A (.compLoop (.ListComp elt [⟨tg, iter, ifs, 0⟩] sc pos) 0 (.ref it) (.ref s2.heap.objs.size) (compEnvC sc (closOf X.env.cells sc.names []) s3.heap.objs.size X.env))
      (compPost (model X.prog X.w) X.A X.xe none (EP X pins σ Q) (.ref s2.heap.objs.size) s3.heap.objs.size) { s3 with heap := h₁, toks := s3.toks + ([] : List (Str × Value)).length } := by
    generalize hX : blk X sc (closOf X.env.cells sc.names []) s3.heap.objs.size Nc fp s3 H3 = Xb at I4
    have eP : Xb.prog = X.prog := by rw [← hX]; rfl
    have ew : Xb.w = X.w := by rw [← hX]; rfl
    have eK : Xb.K = X.K := by rw [← hX]; rfl
    have eA : Xb.A = X.A := by rw [← hX]; rfl
    have ec : Xb.calm = true := by rw [← hX]; exact hc
    have ee : Xb.env = compEnvC sc (closOf X.env.cells sc.names []) s3.heap.objs.size X.env := by rw [← hX]; rfl
    have ex : Xb.xe = fun _ _ => False := by rw [← hX]; rfl
    have hgb : PG Xb tg g := by rw [← hX]; exact hg _ _ _ _ _
    have htb : PTs Xb ifs tt := by rw [← hX]; exact ht _ _ _ _ _
    have heb : PE Xb elt te := by rw [← hX]; exact he _ _ _ _ _
    have stat : ∀ {H' : Hp}, (∀ b ∈ fp, H' b = none) → ∀ b ∈ fp, FpOk Xb [] H' b := fun {H'} hn b hb => by
      obtain ⟨o, eo, _⟩ := T.obj _ _ st4 b hb
      have q := I4.ok.exf b (by rw [← hX]; exact hb)
      exact ⟨hn b hb, q.1, I4.ok.exfs b (by rw [← hX]; exact hb), .inl (by rw [← hX]; exact hb), q.2, fun p hp => absurd hp (by rw [← hX]; simp [blk])⟩
    have fr4 : ∀ b ∈ fp, H3 b = none := fun b hb => (f3 b hb).1
    unfold PG at hgb
    unfold PTs at htb
    unfold PE at heb
    rw [eP, ew, eA, ee, ex] at hgb htb heb
    refine comp_turns (fun n z => ∃ i σ' H' ys, Inv Xb [] σ' H' z ∧ tn i z.heap ∧ (∀ b ∈ fp, H' b = none) ∧ W i n σ' H' ys) ?_ n0 ⟨0, _, H3, [], I4, st4, fr4, w0⟩
    rintro n z ⟨i, σ5, H5, ys, I5, st5, fr5, w5⟩
    obtain ⟨hD, hlen, way⟩ := turn i n σ5 H5 ys w5
    rcases way with ⟨stop, q⟩ | ⟨go, N, hN, step⟩
    · have R := T.done Xb eP ew eK ec i [] z σ5 H5 (fun _ _ => False) I5 (stat fr5) st5 stop
      rw [eA] at R
      refine thn R fun r z1 ⟨hr, I6⟩ => ?_
      subst hr
      obtain ⟨mm, hn6, _⟩ := I6.loc
      rw [ee] at hn6
      refine ⟨mm, hn6, fun h' sb => ?_⟩
      have u6 : Un (frs X.stack) fp H3 H5 s3.heap z1.heap := by
        have := I6.base
        rw [← hX] at this
        exact this
      have fC : H5 s3.heap.objs.size = none := by
        have := I6.free
        rw [ee] at this
        exact this
      have hok6 : HOk X.prog X.w H5 z1.heap := by
        have := I6.hok
        rw [eP, ew] at this
        exact this
      have os6 : z1.os = s3.os := by
        have := I6.os
        rw [← hX] at this
        exact this
      refine ⟨.ref s2.heap.objs.size, H5, I3.call' (s' := { z1 with heap := h' }) (ch := fp) os6 (u6.sameBut sb (Nat.le_refl _)) (hok6.sameBut sb fC) I6.bare (fun b hb => ?_), rfl, q⟩
      obtain ⟨a0, a1, a2, a3, a4, a5⟩ := f3 b hb
      exact ⟨a3, a1, a4, a5⟩
    · have R := T.item Xb eP ew eK ec i [] z σ5 H5 (fun _ _ => False) I5 (stat fr5) st5 go
      rw [eA] at R
      refine thn R fun r z1 ⟨u, hr, h6⟩ => ?_
      subst hr
      refine thn h6 fun _ z2 ⟨x, H7, I7, r7, y7, st7, fr7⟩ => ?_
      have I7' := I7.pinned (stat fr7) (T.obj _ _ st7)
      refine thn (hgb _ z2 σ5 H7 x u _ I7' r7 (step x H7 y7)) fun _ z3 ⟨σ8, H8, I8, q8⟩ => ?_
      refine thn (htb _ z3 σ8 H8 _ I8 q8) fun ok z4 ⟨H9, I9, q9⟩ => ?_
      have again : ∀ {σ7 : St} {Hz : Hp} {zz : Shared} {yy : List V} {n' : Nat}, Inv Xb ([] ++ pinsAt fp z2.heap) σ7 Hz zz → n' < n → W (i + 1) n' σ7 Hz yy → ∃ k, k < n ∧ ∃ i σ' H' ys, Inv Xb [] σ' H' zz ∧ tn i zz.heap ∧ (∀ b ∈ fp, H' b = none) ∧ W i k σ' H' ys := fun {σ7 Hz zz yy n'} Iz hn wz => by
        refine ⟨n', hn, i + 1, σ7, Hz, yy, Iz.unpinned, T.keep _ _ _ st7 fun b hb o e => (Iz.pin (b, o) (List.mem_append_right _ (List.mem_append_right _ (mem_pinsAt hb e)))).1, fun b hb => ?_, wz⟩
        obtain ⟨o, e, d⟩ := T.obj _ _ st7 b hb
        exact (Iz.pin (b, o) (List.mem_append_right _ (List.mem_append_right _ (mem_pinsAt hb e)))).2.1
      cases ok with
      | false =>
        obtain ⟨n', hn, w9⟩ := hN _ _ _ (show N σ8 H9 ys from q9)
        exact again I9 hn w9
      | true =>
        refine thn (heb _ z4 σ8 H9 _ I9 q9) fun xv z5 ⟨vv, H10, I10, r10, hD10, n10⟩ => ?_
        obtain ⟨n', hn, w10⟩ := hN _ _ _ n10
        have R := mt_append (X := Xb) _ z5 σ8 H10 (.ref s2.heap.objs.size) [vv] (.ref s2.heap.objs.size) [xv] (fun _ H' => H' = upd H10 s2.heap.objs.size (.lst (ys ++ [vv]))) I10 rfl (.cons r10 .nil) ⟨_, ys, vv, rfl, rfl, hD10, hlen, rfl⟩
        rw [eP, ew, eA, ex] at R
        refine thn R fun _ z6 ⟨_, H11, I11, _, e11⟩ => ?_
        subst e11
        exact again I11 hn w10
  exact codeAny_compStart_list loop (T.self _ 0 _ _ _ st4 loop)
end

/-- the block's free names are cells of the def -/
theorem free_ok {X : Cx} {sc psc : Scope} (h : (sc.names.all fun y => decide (y.2 = .free → psc.names.lookup y.1 = some .cell ∨ psc.names.lookup y.1 = some .free)) = true) (e : X.env.scope = psc := by rfl) :
    ∀ y ∈ sc.names, y.2 = .free → X.env.scope.names.lookup y.1 = some .cell ∨ X.env.scope.names.lookup y.1 = some .free := by
  rw [e]
  intro y hy
  exact of_decide_eq_true (List.all_eq_true.mp h y hy)
def freeAtB (sc : Scope) (N Nc : List Str) (m : List (Option Nat)) (k : Nat) : Bool := match m[k]? with
  | some (some i) => match Nc[k]? with
    | some x => decide (N[i]? = some x) && decide (sc.names.lookup x = some .free)
    | none => false
  | _ => true
theorem freeAt_ok {X : Cx} {sc : Scope} {N Nc : List Str} {m : List (Option Nat)} (e : X.N = N) (hl : m.length = Nc.length) (h : ((List.range m.length).all (freeAtB sc N Nc m)) = true) : FreeAt X sc Nc m := by
  refine ⟨hl, fun k i hk => ?_⟩
  have hlt : k < m.length := (List.getElem?_eq_some_iff.mp hk).1
  have q := List.all_eq_true.mp h k (List.mem_range.mpr hlt)
  unfold freeAtB at q
  rw [hk] at q
  cases e2 : Nc[k]? with
  | none => rw [e2] at q; cases q
  | some x =>
    rw [e2] at q
    have q : (decide (N[i]? = some x) && decide (sc.names.lookup x = some .free)) = true := q
    rw [Bool.and_eq_true] at q
    exact ⟨x, rfl, by rw [e]; exact of_decide_eq_true q.1, of_decide_eq_true q.2⟩

/-! ### the forms one uses -/
section
variable {m : List (Option Nat)} {g : TG} {tt : TT} {te : TE} {σ : St} {H1 : Hp} {Q : VK}
theorem comp_rng {lo : Int} {n : Nat} (hn : n < sizeLine) (Pv : Addr → Nat → St → Hp → List V → Prop) (h0 : ∀ D, H1 D = none → Pv D 0 (blkσ m σ) (upd H1 D (.lst [])) [])
    (hD : ∀ D i σ' H' ys, H1 D = none → i ≤ n → Pv D i σ' H' ys → H' D = some (.lst ys) ∧ ys.length ≤ i)
    (hs : ∀ D i σ' H' ys, H1 D = none → i < n → Pv D i σ' H' ys → g (.int (lo + i)) σ' H' fun σ2 H2 => tt σ2 H2 fun b H3 => if b = true then te σ2 H3 fun v H4 => H4 D = some (.lst ys) ∧ Pv D (i + 1) σ2 (upd H4 D (.lst (ys ++ [v]))) (ys ++ [v]) else Pv D (i + 1) σ2 H3 ys)
    (hd : ∀ D σ' H' ys, H1 D = none → Pv D n σ' H' ys → Q (.ref D) H') : CompW m g tt te σ Q (Itr lo n) H1 := by
  intro D hDn
  refine ⟨fun i k σ' H' ys => k = n - i ∧ i ≤ n ∧ Pv D i σ' H' ys, ⟨n, rfl, Nat.zero_le _, h0 D hDn⟩, ?_⟩
  rintro i k σ' H' ys ⟨rfl, hi, p⟩
  obtain ⟨q1, q2⟩ := hD D i σ' H' ys hDn hi p
  refine ⟨q1, by omega, ?_⟩
  by_cases hlt : i < n
  · refine .inr ⟨hlt, Pv D (i + 1), fun σ2 H2 zs z => ⟨n - (i + 1), by omega, rfl, hlt, z⟩, fun x H'' y => ?_⟩
    obtain ⟨e1, e2⟩ := y
    subst e1 e2
    exact hs D i σ' _ ys hDn hlt p
  · have e : i = n := by omega
    subst e
    exact .inl ⟨Nat.le_refl _, hd D σ' H' ys hDn p⟩
end
end L2
end
section
/-! more rules for the layer -/
namespace L2
open PySem PySem.Spec PyProof.Rows

/-! ### a plain argument, by its kind -/
section
variable {es : List Expr} {env : Env} {a b : Expr} {pos : Pos} {xs ys : List Expr}
theorem se_bin {op : Operator} : starEach (.BinOp a op b pos :: es) env = (false, eval (.BinOp a op b pos) env) :: starEach es env := rfl
theorem se_call {kw : List Keyword} : starEach (.Call a xs kw pos :: es) env = (false, eval (.Call a xs kw pos) env) :: starEach es env := rfl
theorem se_sub : starEach (.Subscript a b pos :: es) env = (false, eval (.Subscript a b pos) env) :: starEach es env := rfl
theorem se_comp {gs sc} : starEach (.ListComp a gs sc pos :: es) env = (false, eval (.ListComp a gs sc pos) env) :: starEach es env := rfl
theorem se_tup {x1} : starEach (.Tuple xs x1 pos :: es) env = (false, eval (.Tuple xs x1 pos) env) :: starEach es env := rfl
theorem se_const {c k} : starEach (.Constant c k pos :: es) env = (false, eval (.Constant c k pos) env) :: starEach es env := rfl
theorem se_name {x : Str} : starEach (.Name x pos :: es) env = (false, eval (.Name x pos) env) :: starEach es env := rfl
end

section
variable {X : Cx}

/-! ### // by a positive number of any written size -/
def CDivL (i j : Int) : Prop := 0 < j ∧ j < 2 ^ 64
theorem op_fdivL : OpR X (binaryOp .FloorDiv) (rI CDivL fun i j => .int (i / j)) := opI fun i j _ _ _ _ _ hc q => by
  have h1 : (0 : Int) < j := hc.1
  have h2 : j < 2 ^ 64 := hc.2
  refine floordiv_int (by omega) (by rw [Int.fdiv_eq_ediv_of_nonneg i (by omega)]; exact q) (.inl (PyProof.noPylong_of_log2 ?_))
  have h3 : j.natAbs < 2 ^ 64 := by omega
  have h4 : j.natAbs ≠ 0 := by omega
  have := (Nat.log2_lt h4).mpr h3
  omega

/-! ### isinstance(x, T) -/
theorem call_isinst : CallR X (.builtin "isinstance") (fun xs H Q => ∃ x T t b, xs = [x, .ty T] ∧ TyOf X.K H x t ∧ PySem.W.kitOne X.K t (.type T) = some b ∧ Q (.bl b) H) := by
  intro pins s σ H xs us Q I r h
  obtain ⟨x, T, t, b, rfl, ty, e, q⟩ := h
  obtain ⟨u, v, rfl, ru, rv⟩ := r.two
  cases rv
  exact isinst_ok I ru ty e fun tk => ⟨.bl b, H, I.tok tk, rfl, q⟩

/-! ### xs.insert(i, y), i within -/
def rInsert : V → List V → Hp → VK → Prop := fun x vs H Q => ∃ l xs i y, x = .ref l ∧ vs = [.int i, y] ∧ H l = some (.lst xs) ∧ 0 ≤ i ∧ i ≤ xs.length ∧ xs.length < sizeLine ∧ Q .non (upd H l (.lst (xs.take i.toNat ++ y :: xs.drop i.toNat)))
theorem Vals.put {y : V} {v : Value} (r : RelV y v) {xs : List V} {us : List Value} (h : Vals xs us) (k : Nat) : Vals (xs.take k ++ y :: xs.drop k) (us.take k ++ v :: us.drop k) := (h.take k).append (.cons r (h.drop k))
theorem mt_insert : MtM X "list.insert" rInsert := by
  intro pins s σ H x vs v us Q I rx rv h
  obtain ⟨l, xs, i, y, rfl, rfl, hH, h0, h1, hz, q⟩ := h
  cases rx
  obtain ⟨a, b, rfl, ra, rb⟩ := rv.two
  obtain ⟨t, rfl⟩ := ra
  obtain ⟨z, its, n, r, hl, e⟩ := I.lstM hH
  have line := line63
  have hf : Builtin.List.listFitsIndex i = true := fitsIndex_both (by omega) (by omega)
  refine call_meets F.slot_list_insert ⟨_, e, rfl⟩ F.entry_list_insert (F.args_list_insert_3 _ _ _) (AutoSeq1.list_insert_list_int_val_1 l its.toArray n i t b (by simp [hf]) (by rw [List.size_toArray]; omega)) ⟨e, ?_⟩
  refine ⟨.non, _, I.lset (its' := its.take i.toNat ++ b :: its.drop i.toNat) hH e ?_ (Vals.put rb r i.toNat) ?_, rfl, q⟩
  · have hk : (if i < 0 then (i + (its.toArray.size : Int)).toNat else min i.toNat its.toArray.size) = i.toNat := by
      rw [if_neg (by omega), List.size_toArray]
      omega
    show (its.toArray.extract 0 (if i < 0 then (i + (its.toArray.size : Int)).toNat else min i.toNat its.toArray.size)).push b ++ its.toArray.extract (if i < 0 then (i + (its.toArray.size : Int)).toNat else min i.toNat its.toArray.size) = _
    rw [hk]
    apply Array.ext'
    simp [List.extract_eq_take_drop, List.take_of_length_le]
  · rw [List.length_append, List.length_cons, List.length_take, List.length_drop]
    omega

/-! ### t.count(y) of a tuple that is tracked -/

/-! ### t == u, flat tuples of which one is empty -/

/-! ### all(list of truths) -/
theorem call_allL (hc : X.calm = true) : CallR X (.builtin "all") (fun xs H Q => ∃ (p : Addr) (bs : List Bool), xs = [.ref p] ∧ SqL X.K H p (bs.map V.bl) ∧ Q (.bl (bs.all id)) H) := by
  intro pins s σ H xs us Q I r h
  obtain ⟨p, bs, rfl, hq, q⟩ := h
  obtain ⟨u, rfl, rx⟩ := r.one
  cases rx
  obtain ⟨its, r', pl, hz⟩ := I.list hq
  have hlen := r'.length
  rw [List.length_map] at hlen
  refine call_all_walk (wpAny_pyIter_list pl.isList ?_)
  have hne : p ≠ s.heap.objs.size := by
    obtain ⟨o, ho, _⟩ := pl.isList
    exact Nat.ne_of_lt (Heap.lt_size ho)
  refine ⟨s.heap.objs.size, _, _, _, _, _, fun i => bs.getD i true, rfl, Walks.list (by simpa using I.ok.hd hc) _ p hne its.toArray, ⟨⟨_, Heap.get?_push_size _ rfl, rfl, rfl⟩, pl.isList.push _⟩, fun i v z Q' E' hP hQ' => ?_, fun h' tk hk => ?_⟩
  · have hi : its[i]? = some v := by simpa using hP
    have hb : i < bs.length := by
      rw [hlen]
      exact (List.getElem?_eq_some_iff.mp hi).1
    obtain ⟨u, hu, ru⟩ := r'.get (i := i) (x := .bl (bs[i])) (by simp [hb])
    rw [hi] at hu
    cases hu
    cases ru
    have e : bs.getD i true = bs[i] := by simp [List.getD, hb]
    have hQ2 : Q' (bs.getD i true) z := hQ'
    rw [e] at hQ2
    exact wpAny_pure hQ2
  · have e : (List.range its.toArray.size).all (fun i => bs.getD i true) = bs.all id := by
      rw [List.size_toArray, ← hlen]
      rw [Bool.eq_iff_iff, List.all_eq_true, List.all_eq_true]
      constructor
      · intro a b hb
        obtain ⟨i, hi, rfl⟩ := List.getElem_of_mem hb
        have := a i (List.mem_range.mpr hi)
        simpa [List.getD, hi] using this
      · intro a i hi
        have hi := List.mem_range.mp hi
        have := a bs[i] (List.getElem_mem hi)
        simpa [List.getD, hi] using this
    rw [e]
    exact ⟨.bl _, H, I.kept (t' := tk) fun b o e => hk b o (by
      intro z
      have z : b = s.heap.objs.size := by simpa using z
      exact absurd (Heap.lt_size e) (by rw [z]; exact Nat.lt_irrefl _)) (Heap.get?_push_of_some _ e), rfl, q⟩

/-! ### list(range(e)) -/

/-! ### set(list of few small ints), sorted of it -/
def SetO (w : World) (a : Addr) (ks : List Int) : HO := .ext fun h => SS.SetG w h a ks
theorem vals_intsAre {ns : List Int} : ∀ {us : List Value}, Vals (ns.map V.int) us → IntsAre us ns := by
  induction ns with
  | nil => intro us h; cases h; exact .nil
  | cons n ns ih =>
    intro us h
    cases h with
    | cons r t =>
      obtain ⟨k, rfl⟩ := r
      exact .cons n k (ih t)
theorem intsAre_vals : ∀ {us : List Value} {ns : List Int}, IntsAre us ns → Vals (ns.map V.int) us
  | _, _, .nil => .nil
  | _, _, .cons n t r => .cons ⟨t, rfl⟩ (intsAre_vals r)
theorem call_set4 (hc : X.calm = true) : CallR X (.type "set") (fun xs H Q => ∃ (p : Addr) (ns : List Int), xs = [.ref p] ∧ SqL X.K H p (ns.map V.int) ∧ ns.length ≤ 4 ∧ (∀ z ∈ ns, 0 ≤ z ∧ z < 32) ∧
    ∀ (l : Addr) (ks : List Int), H l = none → (∀ z, z ∈ ks ↔ z ∈ ns) → Q (.ref l) (upd H l (SetO X.w l ks))) := by
  intro pins s σ H xs us Q I r h
  obtain ⟨p, ns, rfl, hq, hl, hv, q⟩ := h
  obtain ⟨u, rfl, rx⟩ := r.one
  cases rx
  obtain ⟨its, r', pl, hz⟩ := I.list hq
  have hlen := r'.length
  rw [List.length_map] at hlen
  refine SS.set_of_list (I.ok.hd hc) pl.isList (vals_intsAre r') (by rw [List.size_toArray]; omega) hv fun h' tk ks S hm kp => ?_
  have hg : ∃ o, h'.get? s.heap.objs.size = some o := let ⟨o, _, _, _, e, _⟩ := S.ex; ⟨o, e⟩
  exact ⟨.ref s.heap.objs.size, _, I.laid (t' := tk) (o := SetO X.w s.heap.objs.size ks) kp (Nat.le_refl _) ⟨S, hg, fun h1 h2 a b => a.at b⟩, rfl, q _ ks I.fresh hm⟩
theorem call_sortedSet (hc : X.calm = true) : CallR X (.builtin "sorted") (fun xs H Q => ∃ (p : Addr) (ks : List Int), xs = [.ref p] ∧ H p = some (SetO X.w p ks) ∧
    ∀ (l : Addr) (ns : List Int), H l = none → ns.Pairwise (· < ·) → (∀ z, z ∈ ns ↔ z ∈ ks) → Q (.ref l) (upd H l (.lst (ns.map V.int)))) := by
  intro pins s σ H xs us Q I r h
  obtain ⟨p, ks, rfl, hp, q⟩ := h
  obtain ⟨u, rfl, rx⟩ := r.one
  cases rx
  obtain ⟨S, _, _⟩ := I.hok p _ hp
  refine SS.sorted_set (I.ok.hd hc) S fun s' l vs ns e hl kp g d o he hi pm srt => ?_
  obtain ⟨h', g', d', t', o'⟩ := s'
  have g : g' = s.gens := g
  have o : o' = s.os := o
  have d : d' = s.drawn := d
  subst g; subst o; subst d
  have nd : ns.Nodup := pm.nodup_iff.mpr S.nd
  have lt : ns.Pairwise (· < ·) := by
    have := List.Pairwise.and srt nd
    exact this.imp fun {a b} ⟨x, y⟩ => by omega
  have hz : (ns.map V.int).length ≤ sizeLine := by
    rw [List.length_map, pm.length_eq, sizeLine_eq]
    have := S.len
    omega
  have I2 : Inv X pins σ (upd H l (.lst (ns.map V.int))) { s with heap := h', toks := t' } := I.laid (t' := t') kp hl ⟨hz, vs, e, intsAre_vals hi, he⟩
  exact ⟨.ref l, _, I2, rfl, q l ns (I.hok.fresh hl) lt fun z => pm.mem_iff⟩

end

/-! ### written numbers -/
section
variable {X : Cx} {p1 p2 p3 p4 p5 p6 p7 : Pos} {k1 k2 k3 k4 : Nat}
theorem pe_cpow {i j r : Int} (hj : 0 ≤ j) (hj2 : j ≤ 1000000) (hi : i.natAbs < 2 ^ 64) (e : i ^ j.toNat = r) : PE X (.BinOp (.Constant (.int i) k2 p2) .Pow (.Constant (.int j) k3 p3) p4) (tC (.int r)) := fun pins s σ H Q I h =>
  (pe_op (X := X) op_pow pe_int pe_int) pins s σ H Q I ⟨_, _, rfl, rfl, ⟨hj, hj2, hi⟩, by subst e; exact h⟩
end
end L2
end
section
/-! zip of lists and tuples -/
namespace L2
open PySem PySem.Spec PyProof.Rows
/-- an iterator of a list or (tp) of a tuple -/
def ItAt (tp : Bool) (h : Heap) (it a : Addr) (i : Nat) : Prop := match tp with
  | false => h.IsListIter it a i
  | true => h.IsTupleIter it a i
def ObAt (tp : Bool) (h : Heap) (a : Addr) (xs : Array Value) : Prop := match tp with
  | false => h.IsList a xs
  | true => h.IsTuple a xs
theorem ItAt.but {tp : Bool} {h h' : Heap} {it a b : Addr} {i : Nat} (x : ItAt tp h it a i) (e : Heap.ExtBut b h h') (n : it ≠ b) : ItAt tp h' it a i := by
  cases tp with
  | false => exact Heap.IsListIter.extBut x e n
  | true => exact Heap.IsTupleIter.extBut x e n
theorem ObAt.but {tp : Bool} {h h' : Heap} {a b : Addr} {xs : Array Value} (x : ObAt tp h a xs) (e : Heap.ExtBut b h h') (n : a ≠ b) : ObAt tp h' a xs := by
  cases tp with
  | false => exact Heap.IsList.extBut x e n
  | true => exact Heap.IsTuple.extBut x e n
theorem ItAt.at {tp : Bool} {h h' : Heap} {it a : Addr} {i : Nat} (x : ItAt tp h it a i) (e : ∀ o, h.get? it = some o → h'.get? it = some o) : ItAt tp h' it a i := by
  cases tp with
  | false => exact Heap.IsListIter.at x e
  | true => exact Heap.IsTupleIter.at x e
theorem ItAt.obj {tp : Bool} {h : Heap} {it a : Addr} {i : Nat} (x : ItAt tp h it a i) : ∃ o, h.get? it = some o ∧ ∀ v, o.data ≠ .cell v := by
  cases tp with
  | false => obtain ⟨o, e, _, d⟩ := x; exact ⟨o, e, fun v q => by rw [d] at q; cases q⟩
  | true => obtain ⟨o, e, _, d⟩ := x; exact ⟨o, e, fun v q => by rw [d] at q; cases q⟩
theorem ObAt.lt {tp : Bool} {h : Heap} {a : Addr} {xs : Array Value} (x : ObAt tp h a xs) : a < h.objs.size := by
  cases tp with
  | false => obtain ⟨o, e, _⟩ := x; exact Heap.lt_size e
  | true => obtain ⟨o, e, _⟩ := x; exact Heap.lt_size e
section
variable {prog : Program} {w : World} {A : Around} {E : Value → Shared → Prop} {s : Shared}
theorem next1 {tp : Bool} {it a : Addr} {i : Nat} {xs : Array Value} {x : Value} {Q : Value → Shared → Prop} (hi : ItAt tp s.heap it a i) (ha : ObAt tp s.heap a xs) (hx : xs[i]? = some x)
    (k : ∀ h', ItAt tp h' it a (i + 1) → Heap.SameBut it s.heap h' → Q x { s with heap := h' }) : wpAny (model prog w) A (Builtin.SmallTypes.nextOf (.ref it)) Q E s := by
  cases tp with
  | false => exact wpAny_nextOf_list_item hi ha hx k
  | true =>
    obtain ⟨o, e, c, d⟩ := id (show s.heap.IsTupleIter it a i from hi)
    obtain ⟨u, eu, _, n, du⟩ := (show s.heap.IsTuple a xs from ha)
    have ty := Heap.IsTupleIter.typeIs (show s.heap.IsTupleIter it a i from hi)
    unfold Builtin.SmallTypes.nextOf
    refine wpAny_bind (wpAny_callSpecial?_slot (name := Str.ofString "__next__") ty F.slot_tuple_iterator_next (wpAny_call_entry F.slot_tuple_iterator_next ty F.entry_tuple_iterator_next (?_ : wpAny (model prog w) _ (field (.ref it) 0 >>= _) _ _ s) (F.args_tuple_iterator_next_1 _)))
    refine wpAny_bind (wpAny_field e d (x := .ref a) rfl (?_ : wpAny (model prog w) _ (if (Value.ref a == Value.none) = true then _ else _) _ _ s))
    rw [if_neg (by exact Bool.false_ne_true)]
    show wpAny (model prog w) _ (field (.ref it) 1 >>= _) _ _ s
    refine wpAny_bind (wpAny_field e d (x := .int i 0) rfl ?_)
    show wpAny (model prog w) _ (seqItems? (.ref a) >>= _) _ _ s
    refine wpAny_bind (wpAny_seqItems eu du ?_)
    simp only [Int.toNat_natCast, hx]
    refine wpAny_bind (wpAny_setField e d (by simp) (wpAny_pure ⟨x, rfl, wpAny_pure (k _ ⟨_, Heap.get?_update_self _ e (Obj.isFreed_of_fields (Obj.data_mapFields d _)), (Obj.cls_mapFields ..).trans c, ?_⟩ (Heap.SameBut.update ..))⟩))
    rw [Obj.data_mapFields d]
    simp [rawInt]
theorem next0 {tp : Bool} {it a : Addr} {i : Nat} {xs : Array Value} {Q : Value → Shared → Prop} (hh : A.handled = none) (hi : ItAt tp s.heap it a i) (ha : ObAt tp s.heap a xs) (hx : xs[i]? = none)
    (k : ∀ h' e, Heap.ExtBut it s.heap h' → (∃ o, h'.get? e = some o ∧ o.cls = .type "StopIteration") → E (.ref e) { s with heap := h' }) : wpAny (model prog w) A (Builtin.SmallTypes.nextOf (.ref it)) Q E s := by
  cases tp with
  | false => exact wpAny_nextOf_list_end hh hi ha hx k
  | true =>
    obtain ⟨o, e, c, d⟩ := id (show s.heap.IsTupleIter it a i from hi)
    obtain ⟨u, eu, _, n, du⟩ := (show s.heap.IsTuple a xs from ha)
    have ty := Heap.IsTupleIter.typeIs (show s.heap.IsTupleIter it a i from hi)
    unfold Builtin.SmallTypes.nextOf
    refine wpAny_bind (wpAny_callSpecial?_slot (name := Str.ofString "__next__") ty F.slot_tuple_iterator_next (wpAny_call_entry F.slot_tuple_iterator_next ty F.entry_tuple_iterator_next (?_ : wpAny (model prog w) _ (field (.ref it) 0 >>= _) _ _ s) (F.args_tuple_iterator_next_1 _)))
    refine wpAny_bind (wpAny_field e d (x := .ref a) rfl (?_ : wpAny (model prog w) _ (if (Value.ref a == Value.none) = true then _ else _) _ _ s))
    rw [if_neg (by exact Bool.false_ne_true)]
    show wpAny (model prog w) _ (field (.ref it) 1 >>= _) _ _ s
    refine wpAny_bind (wpAny_field e d (x := .int i 0) rfl ?_)
    show wpAny (model prog w) _ (seqItems? (.ref a) >>= _) _ _ s
    refine wpAny_bind (wpAny_seqItems eu du ?_)
    simp only [Int.toNat_natCast, hx]
    refine wpAny_bind (wpAny_rule (wpAny_bind (wpAny_setField e d (by simp) (?_ : wpAny (model prog w) _ (newExc (.type "StopIteration") [] >>= _) _ _ _))))
    refine wpAny_bind (by
      simp only [newExc, newTuple]
      refine wpAny_bind (wpAny_newObj_type (wpAny_bind (m := firstArgMember _ _) (wpAny_of_eq (a := Value.none) (by first | rfl | (simp only [firstArgMember]; rfl)) (wpAny_newObj_type ?_ (by size_fits)))) (by size_fits))
      simp only [raiseNew]
      refine wpAny_bind (wpAny_handled ?_)
      first | rw [show A.in1.handled = none from hh] | rw [hh]
      exact wpAny_bind (wpAny_pure (wpAny_throw (k _ _ (((Heap.SameBut.update ..).extBut.push _).push _) ⟨_, Heap.get?_push_size _ rfl, rfl⟩))))
/-- both iterators give an item -/
theorem zipT_item {t1 t2 : Bool} {z TI TO i1 i2 l1 l2 : Addr} {k1 k2 : Nat} {xs ys : Array Value} {x y a b : Value} {Q : Value → Shared → Prop} (D : ZipApart z TI TO i1 i2 l1 l2)
    (ez : IsZip s.heap z TI TO .none) (eI : IsPair s.heap TI (.ref i1) (.ref i2)) (eO : IsPair s.heap TO a b) (g1 : ItAt t1 s.heap i1 l1 k1) (g2 : ItAt t2 s.heap i2 l2 k2) (o1 : ObAt t1 s.heap l1 xs) (o2 : ObAt t2 s.heap l2 ys) (hx : xs[k1]? = some x) (hy : ys[k2]? = some y)
    (k : ∀ h', IsZip h' z TI TO (rawInt s.heap.objs.size) → IsPair h' TO x y → ItAt t1 h' i1 l1 (k1 + 1) → ItAt t2 h' i2 l2 (k2 + 1) → IsPair h' s.heap.objs.size x y → h'.objs.size = s.heap.objs.size + 1 →
      (∀ c o, c ≠ z → c ≠ TO → c ≠ i1 → c ≠ i2 → s.heap.get? c = some o → h'.get? c = some o) → Q (.ref s.heap.objs.size) { s with heap := h' }) :
    wpAny (model prog w) A (Builtin.«zip.__next__» ⟨[.ref z], []⟩) (fun fin s' => ∃ v, fin = .done (.ret v) ∧ Q v s') E s := by
  show wpAny (model prog w) A (field (.ref z) 2 >>= _) _ _ _
  refine wpAny_bind (wpAny_field ez rfl (x := .bool false) rfl (?_ : wpAny (model prog w) A (field (.ref z) 3 >>= _) _ _ _))
  refine wpAny_bind (wpAny_field ez rfl (x := .ref TI) rfl (wpAny_bind (wpAny_seqItems eI rfl (?_ : wpAny (model prog w) A (Builtin.SmallTypes.ownedTupleIsFree (.ref z) >>= _) _ _ _))))
  refine wpAny_bind (by
    unfold Builtin.SmallTypes.ownedTupleIsFree
    refine wpAny_bind (wpAny_field ez rfl (x := .none) rfl (wpAny_pure ?_))
    simp only [if_true]
    refine wpAny_bind (wpAny_rule (wpAny_bind (wpAny_field ez rfl (x := .ref TO) rfl (wpAny_bind (wpAny_setField_rec ez (by simp) fun p1 f1 q1 => ?_)))))
    have f1 : IsZip p1 z TI TO .ellipsis := f1
    refine wpAny_bind (by
      simp only [List.zipIdx_cons, List.zipIdx_nil, List.forIn_cons, List.forIn_nil]
      refine wpAny_bind (wpAny_bind (wpAny_onRaise (?_ : wpAny (model prog w) A (Builtin.SmallTypes.nextOf (.ref i1) >>= _) _ _ _)))
      refine wpAny_bind (next1 (g1.but q1.extBut D.i1z) (o1.but q1.extBut D.l1z) hx fun p2 r2 q2 => wpAny_pure ?_)
      have eO2 : IsPair p2 TO a b := q2.extBut _ _ D.TOi1 (q1.extBut _ _ D.TOz eO)
      refine wpAny_bind (wpAny_seqItems eO2 rfl (wpAny_bind (wpAny_updateSeq_pair eO2 fun p3 eO3 q3 => wpAny_bind (wpAny_letGo (wpAny_pure ?_)))))
      have eO3 : IsPair p3 TO x b := eO3
      refine wpAny_bind (wpAny_bind (wpAny_onRaise (?_ : wpAny (model prog w) A (Builtin.SmallTypes.nextOf (.ref i2) >>= _) _ _ _)))
      refine wpAny_bind (next1 (((g2.but q1.extBut D.i2z).but q2.extBut D.i12.symm).but q3.extBut D.TOi2.symm) (((o2.but q1.extBut D.l2z).but q2.extBut D.l2i1).but q3.extBut D.l2TO) hy fun p4 r4 q4 => wpAny_pure ?_)
      have eO4 : IsPair p4 TO x b := q4.extBut _ _ D.TOi2 eO3
      refine wpAny_bind (wpAny_seqItems eO4 rfl (wpAny_bind (wpAny_updateSeq_pair eO4 fun p5 eO5 q5 => wpAny_bind (wpAny_letGo (wpAny_pure (wpAny_pure ?_))))))
      have eO5 : IsPair p5 TO x y := eO5
      refine wpAny_bind (wpAny_seqItems eO5 rfl (wpAny_bind (wpAny_newTuple ?_)))
      have sz : p5.objs.size = s.heap.objs.size := by rw [q5.1, q4.1, q3.1, q2.1, q1.1]
      have ez5 : IsZip p5 z TI TO .ellipsis := q5.extBut _ _ D.TOz.symm (q4.extBut _ _ D.i2z.symm (q3.extBut _ _ D.TOz.symm (q2.extBut _ _ D.i1z.symm f1)))
      have kp5 : ∀ c o, c ≠ z → c ≠ TO → c ≠ i1 → c ≠ i2 → s.heap.get? c = some o → p5.get? c = some o := fun c o n1 n2 n3 n4 e => q5.extBut _ _ n2 (q4.extBut _ _ n4 (q3.extBut _ _ n2 (q2.extBut _ _ n3 (q1.extBut _ _ n1 e))))
      have r15 : ItAt t1 p5 i1 l1 (k1 + 1) := ((r2.but q3.extBut D.TOi1.symm).but q4.extBut D.i12).but q5.extBut D.TOi1.symm
      have r25 : ItAt t2 p5 i2 l2 (k2 + 1) := r4.but q5.extBut D.TOi2.symm
      have zlt : z < p5.objs.size := Heap.lt_size ez5
      show wpAny (model prog w) A (Builtin.SmallTypes.ownedTupleHandOut (.ref z) (.ref p5.objs.size) >>= _) _ _ _
      refine wpAny_bind ?_
      unfold Builtin.SmallTypes.ownedTupleHandOut
      have f6 : IsZip (p5.push { cls := .type "tuple", data := .seq #[x, y] }) z TI TO .ellipsis := Heap.get?_push_of_some _ ez5
      refine wpAny_bind (wpAny_setField_rec f6 (by simp) fun p7 f7 q7 => ?_)
      have f7 : IsZip p7 z TI TO (rawInt p5.objs.size) := f7
      refine wpAny_setField_rec f7 (by simp) fun p8 f8 q8 => ?_
      have f8 : IsZip p8 z TI TO (rawInt p5.objs.size) := f8
      have up : ∀ c o, c ≠ z → p5.get? c = some o → p8.get? c = some o := fun c o n1 e => q8.extBut _ _ n1 (q7.extBut _ _ n1 (Heap.get?_push_of_some _ e))
      have eT : IsPair p8 p5.objs.size x y := q8.extBut _ _ (Nat.ne_of_gt zlt) (q7.extBut _ _ (Nat.ne_of_gt zlt) (Heap.get?_push_size _ rfl))
      have sz8 : p8.objs.size = p5.objs.size + 1 := by rw [q8.1, q7.1, Heap.size_push]
      rw [sz] at f8 eT sz8
      refine wpAny_pure ⟨_, rfl, (?_ : Q (.ref p5.objs.size) _)⟩
      rw [sz]
      exact k p8 f8 (up _ _ D.TOz eO5) (r15.at fun o e => up _ o D.i1z e) (r25.at fun o e => up _ o D.i2z e) eT sz8 fun c o n1 n2 n3 n4 e => up c o n1 (kp5 c o n1 n2 n3 n4 e)))
/-- one of them is at its end -/
theorem zipT_end {t1 t2 : Bool} {z TI TO i1 i2 l1 l2 : Addr} {k1 k2 : Nat} {xs ys : Array Value} {a b : Value} {Q : Fin → Shared → Prop} (hh : A.handled = none) (D : ZipApart z TI TO i1 i2 l1 l2)
    (ez : IsZip s.heap z TI TO .none) (eI : IsPair s.heap TI (.ref i1) (.ref i2)) (eO : IsPair s.heap TO a b) (g1 : ItAt t1 s.heap i1 l1 k1) (g2 : ItAt t2 s.heap i2 l2 k2) (o1 : ObAt t1 s.heap l1 xs) (o2 : ObAt t2 s.heap l2 ys) (hend : xs[k1]? = none ∨ ys[k2]? = none)
    (k : ∀ h' e, (∀ c o, c ≠ z → c ≠ TO → c ≠ i1 → c ≠ i2 → s.heap.get? c = some o → h'.get? c = some o) → (∃ o, h'.get? e = some o ∧ o.cls = .type "StopIteration") → E (.ref e) { s with heap := h' }) :
    wpAny (model prog w) A (Builtin.«zip.__next__» ⟨[.ref z], []⟩) Q E s := by
  show wpAny (model prog w) A (field (.ref z) 2 >>= _) _ _ _
  refine wpAny_bind (wpAny_field ez rfl (x := .bool false) rfl (?_ : wpAny (model prog w) A (field (.ref z) 3 >>= _) _ _ _))
  refine wpAny_bind (wpAny_field ez rfl (x := .ref TI) rfl (wpAny_bind (wpAny_seqItems eI rfl (?_ : wpAny (model prog w) A (Builtin.SmallTypes.ownedTupleIsFree (.ref z) >>= _) _ _ _))))
  refine wpAny_bind (by
    unfold Builtin.SmallTypes.ownedTupleIsFree
    refine wpAny_bind (wpAny_field ez rfl (x := .none) rfl (wpAny_pure ?_))
    simp only [if_true]
    refine wpAny_bind (wpAny_rule (wpAny_bind (wpAny_field ez rfl (x := .ref TO) rfl (wpAny_bind (wpAny_setField_rec ez (by simp) fun p1 f1 q1 => ?_)))))
    have f1 : IsZip p1 z TI TO .ellipsis := f1
    refine wpAny_bind (by
      simp only [List.zipIdx_cons, List.zipIdx_nil, List.forIn_cons, List.forIn_nil]
      refine wpAny_bind (wpAny_bind (wpAny_onRaise (?_ : wpAny (model prog w) A (Builtin.SmallTypes.nextOf (.ref i1) >>= _) _ _ _)))
      cases hx : xs[k1]? with
      | none =>
        refine wpAny_bind (next0 hh (g1.but q1.extBut D.i1z) (o1.but q1.extBut D.l1z) hx fun p2 e q2 ⟨u, eu, cu⟩ => ?_)
        have f2 : IsZip p2 z TI TO .ellipsis := q2 _ _ D.i1z.symm f1
        have nz : e ≠ z := fun v => by subst v; rw [f2] at eu; cases eu; simp at cu
        exact wpAny_setField_rec f2 (by simp) fun p3 _ q3 => k p3 e (fun c o n1 _ n3 _ v => q3.extBut _ _ n1 (q2 _ _ n3 (q1.extBut _ _ n1 v))) ⟨u, q3.extBut _ _ nz eu, cu⟩
      | some x =>
        have hy : ys[k2]? = none := by
          rcases hend with v | v
          · rw [hx] at v; cases v
          · exact v
        refine wpAny_bind (next1 (g1.but q1.extBut D.i1z) (o1.but q1.extBut D.l1z) hx fun p2 r2 q2 => wpAny_pure ?_)
        have eO2 : IsPair p2 TO a b := q2.extBut _ _ D.TOi1 (q1.extBut _ _ D.TOz eO)
        refine wpAny_bind (wpAny_seqItems eO2 rfl (wpAny_bind (wpAny_updateSeq_pair eO2 fun p3 eO3 q3 => wpAny_bind (wpAny_letGo (wpAny_pure ?_)))))
        refine wpAny_bind (wpAny_bind (wpAny_onRaise (?_ : wpAny (model prog w) A (Builtin.SmallTypes.nextOf (.ref i2) >>= _) _ _ _)))
        refine wpAny_bind (next0 hh (((g2.but q1.extBut D.i2z).but q2.extBut D.i12.symm).but q3.extBut D.TOi2.symm) (((o2.but q1.extBut D.l2z).but q2.extBut D.l2i1).but q3.extBut D.l2TO) hy fun p4 e q4 ⟨u, eu, cu⟩ => ?_)
        have f4 : IsZip p4 z TI TO .ellipsis := q4 _ _ D.i2z.symm (q3.extBut _ _ D.TOz.symm (q2.extBut _ _ D.i1z.symm f1))
        have nz : e ≠ z := fun v => by subst v; rw [f4] at eu; cases eu; simp at cu
        exact wpAny_setField_rec f4 (by simp) fun p5 _ q5 => k p5 e (fun c o n1 n2 n3 n4 v => q5.extBut _ _ n1 (q4 _ _ n4 (q3.extBut _ _ n2 (q2.extBut _ _ n3 (q1.extBut _ _ n1 v))))) ⟨u, q5.extBut _ _ nz eu, cu⟩))
theorem pyNext_zipT {t1 t2 : Bool} {z TI TO i1 i2 l1 l2 : Addr} {k1 k2 : Nat} {xs ys : Array Value} {x y a b : Value} {Q : Option Value → Shared → Prop} (D : ZipApart z TI TO i1 i2 l1 l2)
    (ez : IsZip s.heap z TI TO .none) (eI : IsPair s.heap TI (.ref i1) (.ref i2)) (eO : IsPair s.heap TO a b) (g1 : ItAt t1 s.heap i1 l1 k1) (g2 : ItAt t2 s.heap i2 l2 k2) (o1 : ObAt t1 s.heap l1 xs) (o2 : ObAt t2 s.heap l2 ys) (hx : xs[k1]? = some x) (hy : ys[k2]? = some y)
    (k : ∀ h', IsZip h' z TI TO (rawInt s.heap.objs.size) → IsPair h' TO x y → ItAt t1 h' i1 l1 (k1 + 1) → ItAt t2 h' i2 l2 (k2 + 1) → IsPair h' s.heap.objs.size x y → h'.objs.size = s.heap.objs.size + 1 →
      (∀ c o, c ≠ z → c ≠ TO → c ≠ i1 → c ≠ i2 → s.heap.get? c = some o → h'.get? c = some o) → Q (some (.ref s.heap.objs.size)) { s with heap := h' }) :
    wpAny (model prog w) A (pyNext (.ref z)) Q E s := by
  have ty : s.TypeIs (.ref z) "zip" := ⟨_, ez, rfl⟩
  unfold pyNext
  exact wpAny_bind (wpAny_attempt (wpAny_callSpecial?_slot (name := Str.ofString "__next__") ty F.slot_zip_next (wpAny_call_entry F.slot_zip_next ty F.entry_zip_next (zipT_item D ez eI eO g1 g2 o1 o2 hx hy fun h' b1 b2 b3 b4 b5 b6 b7 => wpAny_pure (k h' b1 b2 b3 b4 b5 b6 b7)) (F.args_zip_next_1 _))))
theorem pyNext_zipE {t1 t2 : Bool} {z TI TO i1 i2 l1 l2 : Addr} {k1 k2 : Nat} {xs ys : Array Value} {a b : Value} {Q : Option Value → Shared → Prop} (hh : A.handled = none) (D : ZipApart z TI TO i1 i2 l1 l2)
    (ez : IsZip s.heap z TI TO .none) (eI : IsPair s.heap TI (.ref i1) (.ref i2)) (eO : IsPair s.heap TO a b) (g1 : ItAt t1 s.heap i1 l1 k1) (g2 : ItAt t2 s.heap i2 l2 k2) (o1 : ObAt t1 s.heap l1 xs) (o2 : ObAt t2 s.heap l2 ys) (hend : xs[k1]? = none ∨ ys[k2]? = none)
    (k : ∀ h', (∀ c o, c ≠ z → c ≠ TO → c ≠ i1 → c ≠ i2 → s.heap.get? c = some o → h'.get? c = some o) → Q none { s with heap := h' }) : wpAny (model prog w) A (pyNext (.ref z)) Q E s := by
  have ty : s.TypeIs (.ref z) "zip" := ⟨_, ez, rfl⟩
  unfold pyNext
  refine wpAny_bind (wpAny_attempt (wpAny_callSpecial?_slot (name := Str.ofString "__next__") ty F.slot_zip_next (wpAny_call_entry F.slot_zip_next ty F.entry_zip_next (zipT_end hh D ez eI eO g1 g2 o1 o2 hend fun h' e kp ⟨u, eu, cu⟩ => ?_) (F.args_zip_next_1 _))))
  exact wpAny_bind (wpAny_isInstance (T := "StopIteration") (b := true) ⟨u, eu, cu⟩ isSubtype_stop (wpAny_pure (k _ kp)))
end
/-! ### making it -/
def iterO (tp : Bool) (a : Addr) : Obj := match tp with
  | false => { cls := .type "list_iterator", data := .fields #[.ref a, .int 0 0] }
  | true => { cls := .type "tuple_iterator", data := .fields #[.ref a, .int 0 0] }
theorem iterO_live (tp : Bool) (a : Addr) : (iterO tp a).isFreed = false := by cases tp <;> rfl
theorem ObAt.push {tp : Bool} {h : Heap} {a : Addr} {xs : Array Value} (x : ObAt tp h a xs) (o : Obj) : ObAt tp (h.push o) a xs := by
  cases tp with
  | false => exact Heap.IsList.push x o
  | true => exact Heap.IsTuple.push x o
theorem pyIterT {prog : Program} {w : World} {A : Around} {E : Value → Shared → Prop} {s : Shared} {tp : Bool} {a : Addr} {xs : Array Value} {Q : Value → Shared → Prop} (h : ObAt tp s.heap a xs) (q : Q (.ref s.heap.objs.size) { s with heap := s.heap.push (iterO tp a) }) :
    wpAny (model prog w) A (pyIter (.ref a)) Q E s := by
  cases tp with
  | false => exact wpAny_pyIter_list h q
  | true => exact wpAny_pyIter_tuple h q
def zp1 (t1 : Bool) (h : Heap) (l1 : Addr) : Heap := h.push (iterO t1 l1)
def zp2 (t1 t2 : Bool) (h : Heap) (l1 l2 : Addr) : Heap := (zp1 t1 h l1).push (iterO t2 l2)
def zp3 (t1 t2 : Bool) (h : Heap) (l1 l2 : Addr) : Heap := (zp2 t1 t2 h l1 l2).push { cls := .type "tuple", data := .seq #[.ref h.objs.size, .ref (zp1 t1 h l1).objs.size] }
def zp4 (t1 t2 : Bool) (h : Heap) (l1 l2 : Addr) : Heap := (zp3 t1 t2 h l1 l2).push { cls := .type "tuple", data := .seq #[.none, .none] }
def zp5 (t1 t2 : Bool) (h : Heap) (l1 l2 : Addr) : Heap := (zp4 t1 t2 h l1 l2).push { cls := .type "zip", data := .fields #[.none, .bool false, .bool false, .ref (zp2 t1 t2 h l1 l2).objs.size, .ref (zp3 t1 t2 h l1 l2).objs.size] }
theorem meets_zipT (t1 t2 : Bool) (l1 l2 : Addr) (xs ys : Array Value) :
    Meets (Builtin.«zip.__new__» ⟨[.type "zip", .ref l1, .ref l2], []⟩) (fun _ R s => ObAt t1 s.heap l1 xs ∧ ObAt t2 s.heap l2 ys ∧ R (.ok (.ret (.ref (zp4 t1 t2 s.heap l1 l2).objs.size))) { s with heap := zp5 t1 t2 s.heap l1 l2 }) :=
  .of_wp fun prog w A R s h => by
    obtain ⟨hp, g, d, tk, os⟩ := s
    obtain ⟨a1, a2, q⟩ := h
    have sub := sub_zip
    have e1 : ObAt t1 (Shared.heap ⟨hp, g, d, tk, os⟩) l1 xs := a1
    have e2 : ObAt t2 (Shared.heap ⟨hp.push (iterO t1 l1), g, d, tk, os⟩) l2 ys := ObAt.push a2 _
    wp_walk using pyIterT e1, pyIterT e2
    exact ⟨_, rfl, q⟩
theorem ItAt.new (tp : Bool) {h : Heap} {it a : Addr} (e : h.get? it = some (iterO tp a)) : ItAt tp h it a 0 := by
  cases tp with
  | false => exact ⟨_, e, rfl, rfl⟩
  | true => exact ⟨_, e, rfl, rfl⟩
theorem call_zipT {prog : Program} {w : World} {A : Around} {E : Value → Shared → Prop} {s : Shared} {t1 t2 : Bool} {l1 l2 : Addr} {xs ys : Array Value} {Q : Value → Shared → Prop} (a1 : ObAt t1 s.heap l1 xs) (a2 : ObAt t2 s.heap l2 ys)
    (k : ∀ h', IsZip h' (s.heap.objs.size + 4) (s.heap.objs.size + 2) (s.heap.objs.size + 3) .none → IsPair h' (s.heap.objs.size + 2) (.ref s.heap.objs.size) (.ref (s.heap.objs.size + 1)) →
      IsPair h' (s.heap.objs.size + 3) .none .none → ItAt t1 h' s.heap.objs.size l1 0 → ItAt t2 h' (s.heap.objs.size + 1) l2 0 → (∀ c o, s.heap.get? c = some o → h'.get? c = some o) → Q (.ref (s.heap.objs.size + 4)) { s with heap := h' }) :
    wpAny (model prog w) A (call (.type "zip") [.ref l1, .ref l2]) Q E s := by
  refine callType_new F.called_zip (by decide) (F.typeCall_zip_2 _ _) (F.newCall_zip_2 _ _) (fun obj => F.args_object_init_3 obj _ _) F.entry_zip_new (meets_zipT t1 t2 l1 l2 xs ys) ⟨a1, a2, ?_⟩
  have z1 : (zp1 t1 s.heap l1).objs.size = s.heap.objs.size + 1 := Heap.size_push ..
  have z2 : (zp2 t1 t2 s.heap l1 l2).objs.size = s.heap.objs.size + 2 := (Heap.size_push ..).trans (congrArg (· + 1) z1)
  have z3 : (zp3 t1 t2 s.heap l1 l2).objs.size = s.heap.objs.size + 3 := (Heap.size_push ..).trans (congrArg (· + 1) z2)
  have z4 : (zp4 t1 t2 s.heap l1 l2).objs.size = s.heap.objs.size + 4 := (Heap.size_push ..).trans (congrArg (· + 1) z3)
  have y5 : (zp5 t1 t2 s.heap l1 l2).get? (zp4 t1 t2 s.heap l1 l2).objs.size = some { cls := .type "zip", data := .fields #[.none, .bool false, .bool false, .ref (zp2 t1 t2 s.heap l1 l2).objs.size, .ref (zp3 t1 t2 s.heap l1 l2).objs.size] } := Heap.get?_push_size _ rfl
  have y4 : (zp5 t1 t2 s.heap l1 l2).get? (zp3 t1 t2 s.heap l1 l2).objs.size = some { cls := .type "tuple", data := .seq #[.none, .none] } := Heap.get?_push_of_some _ (Heap.get?_push_size _ rfl)
  have y3 : (zp5 t1 t2 s.heap l1 l2).get? (zp2 t1 t2 s.heap l1 l2).objs.size = some { cls := .type "tuple", data := .seq #[.ref s.heap.objs.size, .ref (zp1 t1 s.heap l1).objs.size] } := Heap.get?_push_of_some _ (Heap.get?_push_of_some _ (Heap.get?_push_size _ rfl))
  have y2 : (zp5 t1 t2 s.heap l1 l2).get? (zp1 t1 s.heap l1).objs.size = some (iterO t2 l2) := Heap.get?_push_of_some _ (Heap.get?_push_of_some _ (Heap.get?_push_of_some _ (Heap.get?_push_size _ (iterO_live _ _))))
  have y1 : (zp5 t1 t2 s.heap l1 l2).get? s.heap.objs.size = some (iterO t1 l1) := Heap.get?_push_of_some _ (Heap.get?_push_of_some _ (Heap.get?_push_of_some _ (Heap.get?_push_of_some _ (Heap.get?_push_size _ (iterO_live _ _)))))
  have up : ∀ c o, s.heap.get? c = some o → (zp5 t1 t2 s.heap l1 l2).get? c = some o := fun c o e => Heap.get?_push_of_some _ (Heap.get?_push_of_some _ (Heap.get?_push_of_some _ (Heap.get?_push_of_some _ (Heap.get?_push_of_some _ e))))
  rw [z2, z3, z4] at y5
  rw [z1, z2] at y3
  rw [z3] at y4
  rw [z1] at y2
  show _ ∧ _
  rw [z4]
  exact ⟨⟨_, y5, rfl⟩, k _ y5 y3 y4 (.new t1 y1) (.new t2 y2) up⟩
section
variable {X : Cx}
/-! ### the layer's rule -/
def Sq (tp : Bool) (K : PySem.W.Frag) (H : Hp) (a : Addr) (xs : List V) : Prop := match tp with
  | false => SqL K H a xs
  | true => SqT K H a xs
theorem Inv.sq {X : Cx} {pins : List (Addr × Obj)} {σ : St} {H : Hp} {s : Shared} {tp : Bool} {a : Addr} {xs : List V} (I : Inv X pins σ H s) (h : Sq tp X.K H a xs) : ∃ its : List Value, Vals xs its ∧ ObAt tp s.heap a its.toArray ∧ xs.length ≤ sizeLine := by
  cases tp with
  | false =>
    obtain ⟨its, r, p, z⟩ := I.list h
    exact ⟨its, r, p.isList, z⟩
  | true => exact I.tuple h
theorem Inv.sq_inj {X : Cx} {pins : List (Addr × Obj)} {σ : St} {H : Hp} {s : Shared} {tp : Bool} {a : Addr} {xs ys : List V} (I : Inv X pins σ H s) (h : Sq tp X.K H a xs) (h' : Sq tp X.K H a ys) : xs = ys := by
  cases tp with
  | false => exact I.list_inj h h'
  | true => exact I.tuple_inj h h'
def Itz (t1 t2 : Bool) (K : PySem.W.Frag) (l1 l2 : Addr) : It :=
  ⟨fun i H => ∃ xs ys x y, Sq t1 K H l1 xs ∧ Sq t2 K H l2 ys ∧ xs[i]? = some x ∧ ys[i]? = some y,
   fun i H v H' => ∃ T x y, H T = none ∧ v = .ref T ∧ H' = upd H T (.tup [x, y]) ∧ ∀ xs ys, Sq t1 K H l1 xs → Sq t2 K H l2 ys → xs[i]? = some x ∧ ys[i]? = some y,
   fun i H => ∃ xs ys, Sq t1 K H l1 xs ∧ Sq t2 K H l2 ys ∧ (xs.length ≤ i ∨ ys.length ≤ i)⟩
theorem turn_zip {P : Program} {w : World} {K : PySem.W.Frag} {elts : List Expr} {x1 : Nat} {tp : Pos} (t1 t2 : Bool) (l1 l2 z TI TO i1 i2 : Addr) (D : ZipApart z TI TO i1 i2 l1 l2) :
    Turn P w K (.Tuple elts x1 tp) (Itz t1 t2 K l1 l2) [z, TO, i1, i2, TI] z (fun i h => IsZip h z TI TO .none ∧ IsPair h TI (.ref i1) (.ref i2) ∧ (∃ a b, IsPair h TO a b) ∧ ItAt t1 h i1 l1 i ∧ ItAt t2 h i2 l2 i) where
  mem := by simp
  obj := fun i h st b hb => by
    obtain ⟨hz, hTI, ⟨a, c, hTO⟩, y1, y2⟩ := st
    simp only [List.mem_cons, List.not_mem_nil, or_false] at hb
    rcases hb with rfl | rfl | rfl | rfl | rfl
    · exact ⟨_, hz, fun v q => by cases q⟩
    · exact ⟨_, hTO, fun v q => by cases q⟩
    · exact y1.obj
    · exact y2.obj
    · exact ⟨_, hTI, fun v q => by cases q⟩
  keep := fun i h h' st k => by
    obtain ⟨hz, hTI, ⟨a, c, hTO⟩, h1, h2⟩ := st
    exact ⟨k z (by simp) _ hz, k TI (by simp) _ hTI, ⟨a, c, k TO (by simp) _ hTO⟩, h1.at fun o e => k i1 (by simp) o e, h2.at fun o e => k i2 (by simp) o e⟩
  item := by
    intro X hP hw hK hc i pins s σ H E I hf st hg
    subst hP hw hK
    obtain ⟨xs, ys, x, y, hq1, hq2, hx, hy⟩ := hg
    obtain ⟨hz, hTI, ⟨a, c, hTO⟩, h1, h2⟩ := st
    obtain ⟨its1, r1, p1, _⟩ := I.sq hq1
    obtain ⟨its2, r2, p2, _⟩ := I.sq hq2
    obtain ⟨u, hu, ru⟩ := r1.get hx
    obtain ⟨v, hv, rv⟩ := r2.get hy
    refine pyNext_zipT D hz hTI hTO h1 h2 p1 p2 (x := u) (y := v) (by simpa using hu) (by simpa using hv) fun h' a1 a2 a3 a4 a5 a6 a7 => ?_
    refine ⟨_, rfl, wpAny_letOwnedTupleGo_zip (s := { s with heap := h' }) a1 fun h'' b1 sb => ?_⟩
    have fresh : H s.heap.objs.size = none := I.fresh
    have nch : ∀ b ∈ ([z, TO, i1, i2] : List Addr), FpOk X pins H b := fun b hb => hf b (by
      simp only [List.mem_cons, List.not_mem_nil, or_false] at hb ⊢
      rcases hb with q | q | q | q
      · exact .inl q
      · exact .inr (.inl q)
      · exact .inr (.inr (.inl q))
      · exact .inr (.inr (.inr (.inl q))))
    have ntr : ∀ b o, H b = some o → b ∉ ([z, TO, i1, i2] : List Addr) := fun b o e hb => by
      have := (nch b hb).1
      rw [e] at this; cases this
    have kp : ∀ b o, b ∉ ([z, TO, i1, i2] : List Addr) → s.heap.get? b = some o → h''.get? b = some o := fun b o hb e => by
      simp only [List.mem_cons, List.not_mem_nil, or_false, not_or] at hb
      exact (sb.2 b hb.1).trans (a7 b o hb.1 hb.2.1 hb.2.2.1 hb.2.2.2 e)
    have nz : s.heap.objs.size ≠ z := Nat.ne_of_gt (Heap.lt_size hz)
    have hT2 : h''.get? s.heap.objs.size = some { cls := .type "tuple", data := .seq #[u, v] } := (sb.2 _ nz).trans a5
    have I2 : Inv X pins σ (upd H s.heap.objs.size (.tup [x, y])) { s with heap := h'' } := by
      refine I.step (g' := s.gens) (d' := s.drawn) (t' := s.toks) (ch := [z, TO, i1, i2]) (fun b hb => ?_) (fun b o _ _ hb e _ => kp b o hb e) (fun b o _ _ hb e _ => ⟨o.slots, kp b o hb e⟩)
        (fun b o _ e n => by rw [upd_ne (Nat.ne_of_lt (Heap.lt_size e))]; exact n) (fun b o hb e => ⟨o, kp b o hb e⟩) (fun b ws e => by rw [upd_ne (ne_of_none e fresh)]; exact e) (fun b o ws e => by rw [upd_ne (ne_of_none e fresh)]; exact e)
        (fun b ps e => ⟨#[], by rw [upd_ne (ne_of_none e fresh), e]; simp⟩) (fun m hm => ?_) (fun b o e => ?_) I.bare
      · obtain ⟨f0, f1, f2, f3, f4, f5⟩ := nch b hb
        exact ⟨f3, f1, f4, f5⟩
      · obtain ⟨o, es, ep, ho, r⟩ := hm
        exact ⟨o, es, ep, kp _ o (fun hb => (nch _ hb).2.1 rfl) ho, r⟩
      · by_cases hb : b = s.heap.objs.size
        · subst hb
          rw [upd_same] at e
          cases e
          exact ⟨by rw [sizeLine_eq]; show 2 ≤ _; decide, [u, v], .cons ru (.cons rv .nil), 0, hT2⟩
        · rw [upd_ne hb] at e
          refine (I.hok b o e).stay (fun c w hc q => kp c w ?_ q) (fun c q => by rw [upd_ne (ne_of_none q fresh)]; exact q) (fun c ws q => by rw [upd_ne (ne_of_none q fresh)]; exact q)
          rcases hc with rfl | hc
          · exact ntr _ _ e
          · exact ntr _ _ hc
    refine ⟨.ref s.heap.objs.size, _, I2, rfl, ⟨_, x, y, fresh, rfl, rfl, fun xs' ys' q1 q2 => ⟨by rw [I.sq_inj q1 hq1]; exact hx, by rw [I.sq_inj q2 hq2]; exact hy⟩⟩, ⟨b1, ?_, ⟨u, v, ?_⟩, ?_, ?_⟩, fun b hb => ?_⟩
    · exact kp TI _ (by simp [D.TIz, D.TITO, D.TIi1, D.TIi2]) hTI
    · exact (sb.2 TO D.TOz).trans a2
    · exact a3.at fun o e => (sb.2 i1 D.i1z).trans e
    · exact a4.at fun o e => (sb.2 i2 D.i2z).trans e
    · rw [upd_ne (fun q => by
        obtain ⟨o, eo⟩ : ∃ o, s.heap.get? b = some o := by
          simp only [List.mem_cons, List.not_mem_nil, or_false] at hb
          rcases hb with rfl | rfl | rfl | rfl | rfl
          · exact ⟨_, hz⟩
          · exact ⟨_, hTO⟩
          · obtain ⟨o, e, _⟩ := h1.obj; exact ⟨o, e⟩
          · obtain ⟨o, e, _⟩ := h2.obj; exact ⟨o, e⟩
          · exact ⟨_, hTI⟩
        exact absurd (Heap.lt_size eo) (by rw [q]; exact Nat.lt_irrefl _))]
      exact (hf b hb).1
  done := by
    intro X hP hw hK hc i pins s σ H E I hf st hg
    subst hP hw hK
    obtain ⟨xs, ys, hq1, hq2, hend⟩ := hg
    obtain ⟨hz, hTI, ⟨a, c, hTO⟩, h1, h2⟩ := st
    obtain ⟨its1, r1, p1, _⟩ := I.sq hq1
    obtain ⟨its2, r2, p2, _⟩ := I.sq hq2
    have e1 := r1.length
    have e2 := r2.length
    refine pyNext_zipE (I.ok.hd hc) D hz hTI hTO h1 h2 p1 p2 (by
      rcases hend with q | q
      · exact .inl (by simp; omega)
      · exact .inr (by simp; omega)) fun h' kp => ⟨rfl, ?_⟩
    have nch : ∀ b ∈ ([z, TO, i1, i2] : List Addr), FpOk X pins H b := fun b hb => hf b (by
      simp only [List.mem_cons, List.not_mem_nil, or_false] at hb ⊢
      rcases hb with q | q | q | q
      · exact .inl q
      · exact .inr (.inl q)
      · exact .inr (.inr (.inl q))
      · exact .inr (.inr (.inr (.inl q))))
    have kp2 : ∀ b o, b ∉ ([z, TO, i1, i2] : List Addr) → s.heap.get? b = some o → h'.get? b = some o := fun b o hb e => by
      simp only [List.mem_cons, List.not_mem_nil, or_false, not_or] at hb
      exact kp b o hb.1 hb.2.1 hb.2.2.1 hb.2.2.2 e
    have ntr : ∀ b o, H b = some o → b ∉ ([z, TO, i1, i2] : List Addr) := fun b o e hb => by
      have := (nch b hb).1
      rw [e] at this; cases this
    refine I.step (g' := s.gens) (d' := s.drawn) (t' := s.toks) (ch := [z, TO, i1, i2]) (fun b hb => ?_) (fun b o _ _ hb e _ => kp2 b o hb e) (fun b o _ _ hb e _ => ⟨o.slots, kp2 b o hb e⟩)
      (fun b o _ e n => n) (fun b o hb e => ⟨o, kp2 b o hb e⟩) (fun b ws e => e) (fun b o ws e => e) (fun b ps e => ⟨#[], by rw [e]; simp⟩) (fun m hm => ?_) (fun b o e => ?_) I.bare
    · obtain ⟨f0, f1, f2, f3, f4, f5⟩ := nch b hb
      exact ⟨f3, f1, f4, f5⟩
    · obtain ⟨o, es, ep, ho, r⟩ := hm
      exact ⟨o, es, ep, kp2 _ o (fun hb => (nch _ hb).2.1 rfl) ho, r⟩
    · refine (I.hok b o e).stay (fun c w hc q => kp2 c w ?_ q) (fun _ q => q) fun _ _ q => q
      rcases hc with rfl | hc
      · exact ntr _ _ e
      · exact ntr _ _ hc
  self := fun _ _ _ _ _ st h => wpAny_pyIter_zip st.1 h
def iZip (K : PySem.W.Frag) (ta : TA) : TI := fun σ H R => ta σ H fun vs H1 => ∃ t1 t2 l1 l2, vs = [.ref l1, .ref l2] ∧ (∃ xs, Sq t1 K H1 l1 xs) ∧ (∃ ys, Sq t2 K H1 l2 ys) ∧ R (Itz t1 t2 K l1 l2) H1
theorem pi_zip {a b : Expr} {ta : TA} {p pos : Pos} {elts : List Expr} {x1 : Nat} {tp : Pos} (hg : Gl X "zip") (hm : X.mg "zip" = none) (ha : PA X [a, b] ta) (hv : bootBuiltins "zip" = some (.type "zip") := by decide +kernel)
    (he : starEach [a, b] X.env = (false, eval a X.env) :: starEach [b] X.env := by rfl) (hpl : (backTo pos (starEach [b] X.env)).any (·.1) = false := by rfl) :
    PI X (.Tuple elts x1 tp) (.Call (.Name "zip" p) [a, b] [] pos) (iZip X.K ta) := by
  intro pins s σ H R I h
  refine Call_ (ld_blt I hg hm hv (PyProof.Rows.callWith_type1 (thn (ha pos pins s σ H _ I h) fun us s1 ⟨vs, H1, I1, r1, q1⟩ => ?_) he hpl))
  obtain ⟨t1, t2, l1, l2, rfl, ⟨xs, hq1⟩, ⟨ys, hq2⟩, q⟩ := q1
  obtain ⟨u, v, rfl, ru, rv⟩ := r1.two
  cases ru
  cases rv
  obtain ⟨its1, _, p1, _⟩ := I1.sq hq1
  obtain ⟨its2, _, p2, _⟩ := I1.sq hq2
  have lt1 : l1 < s1.heap.objs.size := p1.lt
  have lt2 : l2 < s1.heap.objs.size := p2.lt
  refine call_zipT p1 p2 fun h' a1 a2 a3 a4 a5 kp => ?_
  have I2 : Inv X pins σ H1 { s1 with heap := h' } := I1.kept (t' := s1.toks) kp
  have D : ZipApart (s1.heap.objs.size + 4) (s1.heap.objs.size + 2) (s1.heap.objs.size + 3) s1.heap.objs.size (s1.heap.objs.size + 1) l1 l2 := zipApart_new lt1 lt2
  refine wpAny_pyIter_zip a1 ⟨s1.heap.objs.size + 4, [s1.heap.objs.size + 4, s1.heap.objs.size + 3, s1.heap.objs.size, s1.heap.objs.size + 1, s1.heap.objs.size + 2], _, Itz t1 t2 X.K l1 l2, H1, rfl, I2, turn_zip t1 t2 l1 l2 _ _ _ _ _ D, ⟨a1, a2, ⟨_, _, a3⟩, a4, a5⟩, fun b hb => ?_, q⟩
  have hge : s1.heap.objs.size ≤ b := by
    simp only [List.mem_cons, List.not_mem_nil, or_false] at hb
    rcases hb with rfl | rfl | rfl | rfl | rfl
    · exact Nat.le_add_right _ 4
    · exact Nat.le_add_right _ 3
    · exact Nat.le_refl _
    · exact Nat.le_add_right _ 1
    · exact Nat.le_add_right _ 2
  exact I1.fpOk hge (I1.hok.fresh hge)
end
end L2
end
section
/-! the layer's judgements, closed to the unifier -/
namespace L2
open PySem PySem.Spec PyProof.Rows
structure JE (X : Cx) (e : Expr) (t : TE) : Prop where
  h : PE X e t
structure JA (X : Cx) (es : List Expr) (t : TA) : Prop where
  h : PA X es t
structure JT (X : Cx) (e : Expr) (t : TT) : Prop where
  h : PT X e t
structure JTs (X : Cx) (e : List Expr) (t : TT) : Prop where
  h : PTs X e t
structure JS (X : Cx) (e : Stmt) (t : TS) : Prop where
  h : PS X e t
structure JSs (X : Cx) (e : List Stmt) (t : TS) : Prop where
  h : PSs X e t
structure JG (X : Cx) (e : Expr) (t : TG) : Prop where
  h : PG X e t
structure JGs (X : Cx) (e : List Expr) (t : TGs) : Prop where
  h : PGs X e t
structure JI (X : Cx) (tg e : Expr) (t : TI) : Prop where
  h : PI X tg e t
structure JO (X : Cx) (e : Option Expr) (t : TO) : Prop where
  h : PO X e t
/-! names: what a scope says of them, closed -/
structure Loc1 (X : Cx) (x : Str) : Prop where
  a : Loc X.env.scope x
  b : X.fn x = true ∨ X.env.scope.names.lookup x = some .local
structure Vis1 (X : Cx) (x : Str) : Prop where
  a : Vis X.env.scope x
structure Gl1 (X : Cx) (x : Str) : Prop where
  a : Gl X x
/-! plain forms -/
section
variable {a b : Expr} {pos : Pos} {xs : List Expr} {o : Option Expr} {l : Nat} {env : Env}
structure SwOk (e : Expr) (o : Option Expr) : Prop where
  h : ∀ l env, swapsWith e o l env = pure false
theorem sw_bin {op : Operator} : SwOk (.BinOp a op b pos) o := ⟨fun _ _ => rfl⟩
theorem sw_call {kw : List Keyword} : SwOk (.Call a xs kw pos) o := ⟨fun _ _ => rfl⟩
theorem sw_sub : SwOk (.Subscript a b pos) o := ⟨fun _ _ => rfl⟩
theorem sw_lst : SwOk (.List xs pos) o := ⟨fun _ _ => rfl⟩
theorem px_call {kw : List Keyword} : PlainIx (.Call a xs kw pos) := fun _ _ => rfl
theorem px_const {i : Int} {k} : PlainIx (.Constant (.int i) k pos) := fun _ _ => rfl
theorem px_name {x : Str} : PlainIx (.Name x pos) := fun _ _ => rfl
structure FoOk (iter : Expr) : Prop where
  h : ∀ env x, foldedSetIterable iter env x = pure x
theorem fo_call {kw : List Keyword} : FoOk (.Call a xs kw pos) := ⟨fun _ _ => rfl⟩
theorem fo_name {x : Str} : FoOk (.Name x pos) := ⟨fun _ _ => rfl⟩
structure TvOk (e : Expr) : Prop where
  h : ∀ env whole, isTrue e env whole = (do let v ← whole; standAt e.pos; holding [v] (truthy v))
theorem tv_call {kw : List Keyword} : TvOk (.Call a xs kw pos) := ⟨fun _ _ => rfl⟩
end
section
variable {X : Cx} {a b e o : Expr} {ta tb te to : TE} {es : List Expr} {t : TA} {pos p p2 cpos apos : Pos} {x : Str} {T : String} {id : String}
theorem jv (i : Nat) (hN : X.N[i]? = some x) (hv : Vis1 X x) (hd : (x == ("__debug__" : Str)) = false := by decide) (hcd : (x == ("__classdict__" : Str)) = false := by decide) : JE X (.Name x pos) (tVar i) := ⟨pe_var hN hv.a hd hcd⟩
theorem je_int {i j} : JE X (.Constant (.int i) j pos) (tC (.int i)) := ⟨pe_int⟩
theorem je_bl {i j} : JE X (.Constant (.bool i) j pos) (tC (.bl i)) := ⟨pe_bl⟩
theorem je_non {j} : JE X (.Constant .none j pos) (tC .non) := ⟨pe_non⟩
theorem je_bltn {v : V} {u : Value} (hg : Gl1 X x) (hm : X.mg x = none) (hv : bootBuiltins x = some u) (r : RelV v u) (hn : x ≠ "__name__" := by decide) (hd : (x == ("__debug__" : Str)) = false := by decide) : JE X (.Name x pos) (tC v) := ⟨pe_bltn hg.a hm hv r hn hd⟩
theorem je_op {op : Operator} {r : R2} (ho : OpR X (binaryOp op) r) (ha : JE X a ta) (hb : JE X b tb) : JE X (.BinOp a op b pos) (tOp r ta tb) := ⟨pe_op ho ha.h hb.h⟩
theorem je_un {op : UnaryOp} {r : V → Hp → VK → Prop} (ho : UnR X (unaryOp op) r) (ha : JE X a ta) : JE X (.UnaryOp op a pos) (tUn r ta) := ⟨pe_un ho ha.h⟩
theorem je_not (ha : JE X a ta) : JE X (.UnaryOp .Not a pos) (tNotV ta) := ⟨pe_not ha.h⟩
theorem je_cmpR {op : CmpOp} {r : R2} (ho : OpR X (compareOp op) r) (ha : JE X a ta) (hb : JE X b tb) (hm : behindInMarks op b = false) : JE X (.Compare a [op] [b] pos) (tOp r ta tb) := ⟨pe_cmpR ho ha.h hb.h hm⟩
theorem je_and {rest : List Expr} (ha : JE X a ta) (hb : JE X (.BoolOp .And (b :: rest) pos) tb) : JE X (.BoolOp .And (a :: b :: rest) pos) (tAndV ta tb) := ⟨pe_and ha.h hb.h⟩
theorem je_one {op} (ha : JE X a ta) : JE X (.BoolOp op [a] pos) ta := ⟨pe_one ha.h⟩
theorem je_slice {lo hi : Option Expr} {tl th : TO} {r : V → Option Int → Option Int → Hp → VK → Prop} (hr : SlR X r) (he : JE X e te) (hl : JO X lo tl) (hu : JO X hi th) : JE X (.Subscript e (.Slice lo hi none p2) pos) (tSl r te tl th) := ⟨pe_slice hr he.h hl.h hu.h⟩
theorem je_ix {r : R2} (hr : IxR X r) (ha : JE X a ta) (hb : JE X b tb) (hs : PlainIx b) : JE X (.Subscript a b pos) (tOp r ta tb) := ⟨pe_ix hr ha.h hb.h hs⟩
theorem je_callTy {T} {r : List V → Hp → VK → Prop} (hc : CallR X (.type T) r) (hg : Gl1 X x) (hm : X.mg x = none) (hv : bootBuiltins x = some (.type T)) (ha : JA X (e :: es) t) (he : starEach (e :: es) X.env = (false, eval e X.env) :: starEach es X.env) (hn : x ≠ "__name__" := by decide) (hdb : (x == ("__debug__" : Str)) = false := by decide)
    (hpl : (backTo pos (starEach es X.env)).any (·.1) = false := by rfl) : JE X (.Call (.Name x p) (e :: es) [] pos) (tCB r t) := ⟨pe_callTy hc hg.a hm hv ha.h hn hdb he hpl⟩
theorem je_callB {id} {r : List V → Hp → VK → Prop} (hc : CallR X (.builtin id) r) (hg : Gl1 X x) (hm : X.mg x = none) (hv : bootBuiltins x = some (.builtin id)) (ha : JA X (e :: es) t) (he : starEach (e :: es) X.env = (false, eval e X.env) :: starEach es X.env) (hn : x ≠ "__name__" := by decide) (hdb : (x == ("__debug__" : Str)) = false := by decide)
    (hpl : (backTo pos (starEach es X.env)).any (·.1) = false := by rfl) : JE X (.Call (.Name x p) (e :: es) [] pos) (tCB r t) := ⟨pe_callB hc hg.a hm hv ha.h hn hdb he hpl⟩
theorem ja_nil : JA X [] tNil := ⟨pa_nil⟩
theorem ja_cons (ha : JE X e te) (hr : JA X es t) (hs : starEach (e :: es) X.env = (false, eval e X.env) :: starEach es X.env) : JA X (e :: es) (tCons te t) := ⟨pa_cons ha.h hr.h hs⟩
theorem jt_cmpR {op : CmpOp} {r : R2} (ho : OpR X (compareOp op) r) (ha : JE X a ta) (hb : JE X b tb) (hm : behindInMarks op b = false) : JT X (.Compare a [op] [b] pos) (tTest (tOp r ta tb)) := ⟨pt_cmpR ho ha.h hb.h hm⟩
theorem jt_val (h : JE X e te) (he : TvOk e) : JT X e (tB te) := ⟨pt_val h.h (he.h _)⟩
theorem jt_not {tA : TT} (ha : JT X a tA) : JT X (.UnaryOp .Not a pos) (tNot tA) := ⟨pt_not ha.h⟩
theorem jts_nil : JTs X [] tTrue := ⟨pts_nil⟩
theorem jts_one {t : TT} (h : JT X e t) : JTs X [e] t := ⟨pts_one h.h⟩
theorem jg_name {i : Nat} (hN : X.N.Nodup) (hi : X.N[i]? = some x) (hx : Loc1 X x) : JG X (.Name x pos) (gName i) := ⟨pg_name hN hi hx.a hx.b⟩
theorem ji_range1 {tg : Expr} (hg : Gl1 X "range") (hm : X.mg "range" = none) (ha : JA X [a] t) (hs : starEach [a] X.env = (false, eval a X.env) :: starEach [] X.env) : JI X tg (.Call (.Name "range" p) [a] [] pos) (iRng1 t) := ⟨pi_range1 hg.a hm ha.h hs⟩
theorem ji_list {tg : Expr} (hl : JE X a ta) : JI X tg a (iList X.K ta) := ⟨pi_list hl.h⟩
theorem ji_tup {tg : Expr} (hl : JE X a ta) : JI X tg a (iTup X.K ta) := ⟨pi_tup hl.h⟩
theorem ji_zip {elts : List Expr} {x1 : Nat} {tp : Pos} (hg : Gl1 X "zip") (hm : X.mg "zip" = none) (ha : JA X [a, b] t) (he : starEach [a, b] X.env = (false, eval a X.env) :: starEach [b] X.env) (hv : bootBuiltins "zip" = some (.type "zip") := by decide +kernel)
    (hpl : (backTo pos (starEach [b] X.env)).any (·.1) = false := by rfl) : JI X (.Tuple elts x1 tp) (.Call (.Name "zip" p) [a, b] [] pos) (iZip X.K t) := ⟨pi_zip hg.a hm ha.h hv he hpl⟩
theorem jo_none : JO X none tNoPart := ⟨po_none⟩
theorem jo_some (h : JE X e te) : JO X (some e) (tPart te) := ⟨po_some h.h⟩
theorem js_set {i : Nat} {pos' : Pos} (hN : X.N.Nodup) (hi : X.N[i]? = some x) (hx : Loc1 X x) (he : JE X e te) (hs : SwOk e (some (.Name x pos'))) : JS X (.Assign [.Name x pos'] e pos) (tAsg te (gName i)) := ⟨ps_set hN hi hx.a he.h (hs.h _ _) hx.b⟩
theorem js_ret (he : JE X e te) : JS X (.Return (some e) pos) (tRet te) := ⟨ps_ret he.h⟩
theorem js_expr (he : JE X e te) (hs : SwOk e none) : JS X (.Expr e pos) (tDrop te) := ⟨ps_expr he.h (hs.h _ _)⟩
theorem jss_nil : JSs X [] tNext := ⟨pss_nil⟩
theorem jss_one {st : Stmt} {t : TS} (h1 : JS X st t) : JSs X [st] t := ⟨pss_one h1.h⟩
theorem jss_cons {st : Stmt} {rest : List Stmt} {t u : TS} (h1 : JS X st t) (h2 : JSs X rest u) : JSs X (st :: rest) (tSeq t u) := ⟨pss_cons h1.h h2.h⟩
theorem js_if {c : Expr} {a b : List Stmt} {tc : TT} {t u : TS} (hc : JT X c tc) (ha : JSs X a t) (hb : JSs X b u) : JS X (.If c a b pos) (tIfS tc t u) := ⟨ps_if hc.h ha.h hb.h⟩
theorem js_for {tg iter : Expr} {body : List Stmt} {wi : TI} {g : TG} {tb : TS} (hp : PassesOwn (model X.prog X.w) X.A X.env X.xe) (hc : X.calm = true) (hi : JI X tg iter wi) (hg : JG X tg g) (hb : JSs X body tb) (hs : FoOk iter) : JS X (.For tg iter body [] pos) (tFor wi g tb) := ⟨ps_for hp hc hi.h hg.h hb.h (hs.h _)⟩
theorem je_bm {T : String} {name : Str} {r} (pa : PlainAttrs T) (slot : Slot T name id) (hty : typeOf (.builtin id) = pure (.type "method_descriptor")) (hm : MtR X id r) (ho : JE X o to) (ha : JA X (e :: es) t)
    (hs : starEach (e :: es) X.env = (false, eval e X.env) :: starEach es X.env)
    (hbase : attributeBase o name X.env (eval o X.env) = eval o X.env := by rfl)
    (hfew : ((backTo cpos (starEach (e :: es) X.env)).all (fun x => !x.1) && (backToKw cpos (keywordEach [] X.env)).all (fun x => x.1.isSome)
      && decide ((e :: es).length + ([] : List Keyword).length + (if ([] : List Keyword).isEmpty then 0 else 1) < 30)) = true := by rfl)
    (hline : (apos.endLine == cpos.line) = true := by rfl) (hplain : (backTo cpos (starEach es X.env)).any (·.1) = false := by rfl) :
    JE X (.Call (.Attribute o name apos) (e :: es) [] cpos) (tBM X.K T r to t) := ⟨pe_bm pa slot hty hm ho.h ha.h hbase hfew hline hs hplain⟩
theorem je_comp {tg iter elt : Expr} {ifs : List Expr} {sc : Scope} {wi : TI} {g : TG} {tt : TT} {m : List (Option Nat)} {Nc : List Str} (hc : X.calm = true) (hi : JI X tg iter wi) (hkind : sc.kind = .function) (hcell : ∀ y ∈ sc.names, y.2 ≠ .cell) (hnames : ∀ y ∈ sc.names, y.2 = .local → sc.names.lookup y.1 = some .local)
    (hfree : ∀ y ∈ sc.names, y.2 = .free → X.env.scope.names.lookup y.1 = some .cell ∨ X.env.scope.names.lookup y.1 = some .free) (hm : FreeAt X sc Nc m)
    (hg : ∀ cl C fp s H, JG (blk X sc cl C Nc fp s H) tg g) (ht : ∀ cl C fp s H, JTs (blk X sc cl C Nc fp s H) ifs tt) (he : ∀ cl C fp s H, JE (blk X sc cl C Nc fp s H) elt te)
    (hs : FoOk iter) : JE X (.ListComp elt [⟨tg, iter, ifs, 0⟩] sc pos) (tComp m wi g tt te) := ⟨pe_comp hc hi.h hkind hcell hnames hfree hm (fun cl C fp s H => (hg cl C fp s H).h) (fun cl C fp s H => (ht cl C fp s H).h) (fun cl C fp s H => (he cl C fp s H).h) (hs.h _)⟩
end
/-! the scope's word in a def, and in a block of one -/
section
variable {P : Program} {w : World} {K : PySem.W.Frag} {mg : Str → Option Value} {base : Heap} {N : List Str} {qual : Str} {sc : Scope} {f : Addr} {cdv : Value} {A : Around} {outer : List Env} {s : Shared} {H : Hp} {E : XK} {x : Str}
theorem gl_d (h : sc.names.lookup x = some .globalImplicit) : Gl1 (cxOf CX0 P w K mg base N qual sc f cdv A outer s H E).nox x := ⟨h⟩
theorem vis_l (h : sc.names.lookup x = some .local) : Vis1 (cxOf CX0 P w K mg base N qual sc f cdv A outer s H E).nox x := ⟨.inl h⟩
theorem vis_c (h : sc.names.lookup x = some .cell) : Vis1 (cxOf CX0 P w K mg base N qual sc f cdv A outer s H E).nox x := ⟨.inr (.inl h)⟩
end
theorem keep_relab {env : Env} {x : Str} {k : NameKind} (hk : k ≠ .free) : ∀ {l : List (Str × NameKind)}, l.lookup x = some k →
    (l.map fun (n, k) => if (k == NameKind.free && env.scope.kind == .function && env.kindOf n == some .cell) then (n, NameKind.cell) else (n, k)).lookup x = some k
  | [], h => by cases h
  | (n, k') :: r, h => by
    have ih := @keep_relab env x k hk r
    rw [List.lookup_cons] at h
    rw [List.map_cons]
    dsimp only
    by_cases hb : (k' == NameKind.free && env.scope.kind == .function && env.kindOf n == some .cell) = true
    · rw [if_pos hb, List.lookup_cons]
      cases hx : x == n with
      | true =>
        rw [hx] at h
        have e : k' = k := Option.some.inj h
        simp only [Bool.and_eq_true] at hb
        exact absurd (e.symm.trans (eq_of_beq hb.1.1)) hk
      | false => rw [hx] at h; exact ih h
    · rw [if_neg hb, List.lookup_cons]
      cases hx : x == n with
      | true => rw [hx] at h; exact h
      | false => rw [hx] at h; exact ih h
section
variable {X : Cx} {sc : Scope} {cl : List (Str × Addr)} {C : Addr} {Nc : List Str} {fp : List Addr} {s : Shared} {H : Hp} {x : Str}
theorem gl_b (h : sc.names.lookup x = some .globalImplicit) : Gl1 (blk X sc cl C Nc fp s H) x := ⟨keep_relab (by decide) h⟩
theorem vis_bl (h : sc.names.lookup x = some .local) : Vis1 (blk X sc cl C Nc fp s H) x := ⟨.inl (keep_relab (by decide) h)⟩
theorem vis_bf (h : sc.names.lookup x = some .free) : Vis1 (blk X sc cl C Nc fp s H) x := ⟨.inr (free_relab h)⟩
theorem loc_b (h : sc.names.lookup x = some .local) : Loc1 (blk X sc cl C Nc fp s H) x := ⟨.inl (keep_relab (by decide) h), .inr (keep_relab (by decide) h)⟩
end
section
variable {P : Program} {w : World} {K : PySem.W.Frag} {mg : Str → Option Value} {base : Heap} {N : List Str} {qual : Str} {sc : Scope} {f : Addr} {cdv : Value} {A : Around} {outer : List Env} {s : Shared} {H : Hp} {E : XK} {x : Str}
theorem loc_l (h : sc.names.lookup x = some .local) : Loc1 (cxOf CX0 P w K mg base N qual sc f cdv A outer s H E).nox x := ⟨.inl h, .inl rfl⟩
theorem loc_c (h : sc.names.lookup x = some .cell) : Loc1 (cxOf CX0 P w K mg base N qual sc f cdv A outer s H E).nox x := ⟨.inr h, .inl rfl⟩
end
structure JW (X : Cx) (e : Expr) (t : TT) : Prop where
  h : PW X e t
section
variable {X : Cx} {a b : Expr} {rest : List Expr} {pos : Pos} {tA tB' : TT}
theorem jw_or1 (ha : JT X a tA) : JW X (.BoolOp .Or [a] pos) tA := ⟨pw_or1 ha.h⟩
theorem jw_or (ha : JT X a tA) (hb : JW X (.BoolOp .Or (b :: rest) pos) tB') : JW X (.BoolOp .Or (a :: b :: rest) pos) (tOr tA tB') := ⟨pw_or ha.h hb.h⟩
theorem jt_w (h : JW X a tA) : JT X a tA := ⟨h.h.pt⟩
theorem jgs_nil : JGs X [] gNil := ⟨pgs_nil⟩
structure AsOk (e : Expr) : Prop where
  h : ∀ es env, assignEach (e :: es) env = (false, assign e env) :: assignEach es env
theorem as_name {x : Str} : AsOk (.Name x pos) := ⟨fun _ _ => rfl⟩
theorem jgs_cons {e : Expr} {es : List Expr} {t : TG} {u : TGs} (h1 : JG X e t) (h2 : JGs X es u) (hs : AsOk e) : JGs X (e :: es) (gCons t u) := ⟨pgs_cons h1.h h2.h (by rw [hs.h]; rfl)⟩
theorem jg_tup {es : List Expr} {k : Nat} {t : TGs} {n : Nat} (hc : X.calm = true) (h : JGs X es t) (hn : (assignEach es X.env).length = n := by rfl) (hst : (assignEach es X.env).findIdx? (·.1) = none := by rfl) : JG X (.Tuple es k pos) (gTup X.K n t) := ⟨pg_tup hc h.h hn hst⟩
theorem nm_name {op : CmpOp} {x : Str} : behindInMarks op (.Name x pos) = false := by cases op <;> rfl
end
theorem jg_pair_b {X : Cx} {sc : Scope} {cl : List (Str × Addr)} {C : Addr} {Nc : List Str} {fp : List Addr} {s : Shared} {H : Hp} {x y : Str} {p1 p2 pos : Pos} {k : Nat} {i j : Nat} (hc : X.calm = true) (hN : Nc.Nodup) (hi : Nc[i]? = some x) (hj : Nc[j]? = some y) (hx : sc.names.lookup x = some .local) (hy : sc.names.lookup y = some .local) :
    JG (blk X sc cl C Nc fp s H) (.Tuple [.Name x p1, .Name y p2] k pos) (gTup X.K 2 (gCons (gName i) (gCons (gName j) gNil))) :=
  jg_tup (X := blk X sc cl C Nc fp s H) hc (jgs_cons (jg_name hN hi (loc_b hx)) (jgs_cons (jg_name hN hj (loc_b hy)) jgs_nil as_name) as_name)
/-! ### a comprehension over zip(list, list) -/
section
variable {K : PySem.W.Frag} {m : List (Option Nat)} {g : TG} {tt : TT} {te : TE} {σ : St} {H1 : Hp} {Q : VK}
theorem comp_zip {t1 t2 : Bool} {l1 l2 : Addr} {xs ys : List V} (hn : xs.length < sizeLine) (Pv : Addr → Nat → St → Hp → List V → Prop) (h0 : ∀ D, H1 D = none → Pv D 0 (blkσ m σ) (upd H1 D (.lst [])) [])
    (hD : ∀ D i σ' H' zs, H1 D = none → Pv D i σ' H' zs → Sq t1 K H' l1 xs ∧ Sq t2 K H' l2 ys ∧ H' D = some (.lst zs) ∧ zs.length ≤ i)
    (hs : ∀ D i σ' H' zs x y T, H1 D = none → xs[i]? = some x → ys[i]? = some y → H' T = none → Pv D i σ' H' zs → g (.ref T) σ' (upd H' T (.tup [x, y])) fun σ2 H2 => tt σ2 H2 fun b H3 => if b = true then te σ2 H3 fun v H4 => H4 D = some (.lst zs) ∧ Pv D (i + 1) σ2 (upd H4 D (.lst (zs ++ [v]))) (zs ++ [v]) else Pv D (i + 1) σ2 H3 zs)
    (hd : ∀ D σ' H' zs, H1 D = none → Pv D (min xs.length ys.length) σ' H' zs → Q (.ref D) H') : CompW m g tt te σ Q (Itz t1 t2 K l1 l2) H1 := by
  intro D hDn
  refine ⟨fun i k σ' H' zs => k = min xs.length ys.length - i ∧ i ≤ min xs.length ys.length ∧ Pv D i σ' H' zs, ⟨_, rfl, Nat.zero_le _, h0 D hDn⟩, ?_⟩
  rintro i k σ' H' zs ⟨rfl, hi, p⟩
  obtain ⟨s1, s2, q1, q2⟩ := hD D i σ' H' zs hDn p
  refine ⟨q1, by omega, ?_⟩
  by_cases hlt : i < min xs.length ys.length
  · have a1 : i < xs.length := by omega
    have a2 : i < ys.length := by omega
    refine .inr ⟨⟨xs, ys, xs[i], ys[i], s1, s2, by simp [a1], by simp [a2]⟩, Pv D (i + 1), fun σ2 H2 zs z => ⟨min xs.length ys.length - (i + 1), by omega, rfl, hlt, z⟩, fun v H'' y => ?_⟩
    obtain ⟨T, x, y, e1, e2, e3, e4⟩ := y
    subst e2 e3
    obtain ⟨z1, z2⟩ := e4 xs ys s1 s2
    exact hs D i σ' _ zs x y T hDn z1 z2 e1 p
  · have e : i = min xs.length ys.length := by omega
    subst e
    exact .inl ⟨⟨xs, ys, s1, s2, by omega⟩, hd D σ' H' zs hDn p⟩
end
/-! ### rules that speak of the fragment, in a block -/
section
variable {X : Cx} {sc : Scope} {cl : List (Str × Addr)} {C : Addr} {Nc : List Str} {fp : List Addr} {s : Shared} {H : Hp}
theorem op_in_b : OpR (blk X sc cl C Nc fp s H) (compareOp .In) (rIn X.K false) := op_in_seq
theorem op_notIn_b : OpR (blk X sc cl C Nc fp s H) (compareOp .NotIn) (rIn X.K true) := op_notIn_seq
theorem ix_list_b : IxR (blk X sc cl C Nc fp s H) (rIxL X.K) := ix_list
theorem ix_tup_b : IxR (blk X sc cl C Nc fp s H) (rIxT X.K) := ix_tup
end
end L2
end
section
/-! tuples: + and * and slices of any kind, and more -/
namespace L2
open PySem PySem.Spec PyProof.Rows
/-- all that was is as it was -/
def Ext (H H' : Hp) : Prop := ∀ b o, H b = some o → H' b = some o
theorem Ext.refl (H : Hp) : Ext H H := fun _ _ h => h
theorem Ext.trans {H H1 H2 : Hp} (a : Ext H H1) (b : Ext H1 H2) : Ext H H2 := fun c o h => b c o (a c o h)
theorem Ext.new {H H1 : Hp} {l : Addr} (a : Ext H H1) (hl : H1 l = none) (o : HO) : Ext H (upd H1 l o) := fun c u h => by
  have := a c u h
  rw [upd_ne (ne_of_none this hl)]
  exact this
theorem Ext.updNew {H H1 : Hp} {l : Addr} (a : Ext H H1) (hl : H l = none) (o : HO) : Ext H (upd H1 l o) := fun c u h => by
  rw [upd_ne (ne_of_none h hl)]
  exact a c u h
theorem Ext.seq {K : PySem.W.Frag} {H H' : Hp} {a : Addr} {xs : List V} (e : Ext H H') (h : SqL K H a xs) : SqL K H' a xs := by
  rcases h with h | h
  · rcases h with h | ⟨o, h⟩
    · exact .inl (.inl (e _ _ h))
    · exact .inl (.inr ⟨o, e _ _ h⟩)
  · exact .inr h
/-- a tuple is told: this one -/
def TupR (H : Hp) (xs : List V) (Q : VK) : Prop := ∀ r H', H' r = some (.tup xs) → Ext H H' → Q (.ref r) H'
theorem TupR.new {H : Hp} {xs : List V} {Q : VK} (q : TupR H xs Q) {p : Addr} (hp : H p = none) : Q (.ref p) (upd H p (.tup xs)) := q p _ upd_same ((Ext.refl H).new hp _)
theorem TupR.old {H : Hp} {xs : List V} {Q : VK} (q : TupR H xs Q) {p : Addr} (hp : H p = some (.tup xs)) : Q (.ref p) H := q p H hp (Ext.refl H)
section
variable {X : Cx}
def rCatU : R2 := fun x y H Q => ∃ a b xs ys, x = .ref a ∧ y = .ref b ∧ H a = some (.tup xs) ∧ H b = some (.tup ys) ∧ xs.length + ys.length ≤ sizeLine ∧ TupR H (xs ++ ys) Q
theorem op_catU : OpR X (binaryOp .Add) rCatU := by
  intro pins s σ H x y v u Q I rx ry h
  obtain ⟨a, b, xs, ys, rfl, rfl, ha, hb, hz, q⟩ := h
  by_cases hx : xs = []
  · subst hx
    cases rx
    cases ry
    obtain ⟨_, its, r1, n1, e1⟩ := I.hok a _ ha
    obtain ⟨_, its2, r2, n2, e2⟩ := I.hok b _ hb
    cases r1
    exact concat_meets ⟨_, e1, rfl⟩ ⟨_, e2, rfl⟩ noFill_tuple_add seq_tuple_add PySem.F.slot_tuple_add PySem.F.entry_tuple_add (PySem.F.args_tuple_add_2 _ _) (AutoSeq1.tuple___add___tuple_tuple_0 a _ n1 b its2.toArray n2 (by simp)) ⟨e1, e2, .ref b, H, I, rfl, q.old hb⟩
  · refine op_catT pins s σ H _ _ v u Q I rx ry ⟨a, b, xs, ys, rfl, rfl, SqT.of ha, SqT.of hb, hx, hz, fun e => ?_, fun _ p hp => q.new hp⟩
    subst e
    rw [List.append_nil] at q
    exact q.old ha
/-! ### t * k -/
section
variable (l : Addr) (items : Array Value) (n : Nat) (x : Int) (u : Tok) (h1 : ¬ (decide (x < -(2 ^ 63)) || decide (x ≥ 2 ^ 63)) = true)
include h1
end
/-! ### t[lo:hi], any -/
theorem getItem_tuple_all {prog : Program} {w : World} {A : Around} {E : Value → Shared → Prop} {s : Shared} {t sl : Addr} {items : Array Value} {n : Nat} {vl vu : Value} {lo hi : Option Int} {Q : Value → Shared → Prop}
    (e0 : s.heap.get? t = some { cls := .type "tuple", data := .seq items n }) (hs : s.heap.IsSliceOf sl vl vu .none) (pl : IsPart vl lo) (pu : IsPart vu hi)
    (hw : HT.sIx items.size 0 lo = 0 ∧ HT.sIx items.size items.size hi = items.size) (h : Q (.ref t) s) : wpAny (model prog w) A (getItem (.ref t) (.ref sl)) Q E s := by
  have ht : IsTup s.heap t items := ⟨_, e0, rfl, n, rfl⟩
  obtain ⟨os, hos, hcs, hds⟩ := id hs
  have hTs : s.TypeIs (.ref sl) "slice" := ⟨os, hos, hcs⟩
  unfold getItem
  try with_reducible refine wpAny_holding ?_
  first | refine wpAny_bind (wpAny_pure ?_) | skip
  refine wpAny_bind (wpAny_sequenceKey ht.typeIs (by decide) (wpAny_bind (wpAny_callSpecial?_slot (name := Str.ofString "__getitem__") ht.typeIs PyProof.Rows.slot_tuple_getitem
    (wpAny_call_entry PyProof.Rows.slot_tuple_getitem ht.typeIs entry_tuple_getitem (?_ : wpAny (model prog w) _ (Builtin.Tuple.tupleItemsOf (.ref t) >>= _) _ _ s) (args_tuple_getitem _ _)))))
  refine wpAny_bind (tupleItemsOf_ ht (wpAny_bind (wpAny_typeOf hTs ?_)))
  rw [if_pos (by decide)]
  refine wpAny_bind (HT.sliceApplied_gen hs pl pu ?_)
  have yes : (((HT.sIx items.size 0 lo : Nat) : Int) == 0 && (1 : Int) == 1 && (HT.sIx items.size items.size hi - HT.sIx items.size 0 lo) == items.size) = true := by
    rw [hw.1, hw.2]
    simp
  show wpAny (model prog w) _ (if (((HT.sIx items.size 0 lo : Nat) : Int) == 0 && (1 : Int) == 1 && (HT.sIx items.size items.size hi - HT.sIx items.size 0 lo) == items.size) = true then _ else _) _ _ s
  rw [if_pos yes]
  have ex : ∀ {A : Around} {Q : Bool → Shared → Prop}, Q true s → wpAny (model prog w) A (Builtin.Tuple.tupleIsExact (.ref t)) Q E s := fun q => by
    unfold Builtin.Tuple.tupleIsExact
    exact wpAny_bind (wpAny_typeOf ⟨_, e0, rfl⟩ (wpAny_pure q))
  refine wpAny_bind (ex ?_)
  rw [if_pos rfl]
  exact wpAny_bind (wpAny_rule (wpAny_pure ⟨_, rfl, wpAny_pure h⟩))
def rSlU : V → Option Int → Option Int → Hp → VK → Prop := fun x lo hi H Q => ∃ a xs, x = .ref a ∧ H a = some (.tup xs) ∧ TupR H (cutV xs lo hi) Q
theorem sl_tupU : SlR X rSlU := by
  intro pins s σ H x v vl vu lo hi sl Q I rx hs pl pu h
  obtain ⟨a, xs, rfl, hx, q⟩ := h
  by_cases hw : HT.sIx xs.length 0 lo = 0 ∧ HT.sIx xs.length xs.length hi = xs.length
  · cases rx
    obtain ⟨_, its, r, n, e⟩ := I.hok a _ hx
    have hlen : its.toArray.size = xs.length := by rw [List.size_toArray]; exact r.length.symm
    refine ⟨"tuple", _, PyProof.Rows.slot_tuple_getitem.lookup, ⟨_, e, rfl⟩, getItem_tuple_all e hs pl pu (by rw [hlen]; exact hw) ⟨.ref a, H, I, rfl, q.old ?_⟩⟩
    rw [hx]
    congr 2
    unfold cutV
    rw [hw.1, hw.2]
    simp
  · exact sl_tup pins s σ H _ v vl vu lo hi sl Q I rx hs pl pu ⟨a, xs, rfl, SqT.of hx, hw, fun p hp => q.new hp⟩
/-! ### {} -/
theorem Inv.big' {pins : List (Addr × Obj)} {σ : St} {H : Hp} {s : Shared} (I : Inv X pins σ H s) : sysModules < s.heap.objs.size := Nat.lt_trans (by decide) (I.mod.glob.keeps I.bk).lt
def tDict0 : TE := fun _ H Q => ∀ p, H p = none → Q (.ref p) (upd H p (.dK []))
theorem je_dict0 {pos : Pos} : JE X (.Dict [] [] pos) tDict0 := ⟨fun pins s σ H Q I h =>
  wpAny_Dict_empty ⟨.ref s.heap.objs.size, _, I.laid (a := s.heap.objs.size) (o := .dK []) (t' := s.toks) (fun _ _ q => Heap.get?_push_of_some _ q) (Nat.le_refl _)
    ⟨Nat.zero_le _, beq_eq_false_iff_ne.mpr (Ne.symm (Nat.ne_of_lt I.big')), [], .nil, Heap.DictOf.new s.heap⟩, rfl, h _ (I.hok.fresh (Nat.le_refl _))⟩⟩
/-! ### more in the closed forms -/
theorem js_asg {tg e : Expr} {te : TE} {g : TG} {pos : Pos} (he : JE X e te) (hg : JG X tg g) (hs : swapsWithSole [tg] e pos.line X.env = pure false := by rfl) (hw : swappedStores [tg] e X.env = pure none := by rfl)
    (h1 : (assignEach [tg] X.env).map (·.2) = [assign tg X.env] := by rfl) : JS X (.Assign [tg] e pos) (tAsg te g) := ⟨ps_asg he.h hg.h hs hw h1⟩
end
/-! ### a comprehension over a tuple -/
section
variable {K : PySem.W.Frag} {m : List (Option Nat)} {g : TG} {tt : TT} {te : TE} {σ : St} {H1 : Hp} {Q : VK}
theorem comp_tup {a : Addr} {xs : List V} (hn : xs.length < sizeLine) (Pv : Addr → Nat → St → Hp → List V → Prop) (h0 : ∀ D, H1 D = none → Pv D 0 (blkσ m σ) (upd H1 D (.lst [])) [])
    (hD : ∀ D i σ' H' zs, H1 D = none → Pv D i σ' H' zs → H' a = some (.tup xs) ∧ H' D = some (.lst zs) ∧ zs.length ≤ i)
    (hs : ∀ D i σ' H' zs x, H1 D = none → xs[i]? = some x → Pv D i σ' H' zs → g x σ' H' fun σ2 H2 => tt σ2 H2 fun b H3 => if b = true then te σ2 H3 fun v H4 => H4 D = some (.lst zs) ∧ Pv D (i + 1) σ2 (upd H4 D (.lst (zs ++ [v]))) (zs ++ [v]) else Pv D (i + 1) σ2 H3 zs)
    (hd : ∀ D σ' H' zs, H1 D = none → Pv D xs.length σ' H' zs → Q (.ref D) H') : CompW m g tt te σ Q (Itt K a) H1 := by
  intro D hDn
  refine ⟨fun i k σ' H' zs => k = xs.length - i ∧ i ≤ xs.length ∧ Pv D i σ' H' zs, ⟨_, rfl, Nat.zero_le _, h0 D hDn⟩, ?_⟩
  rintro i k σ' H' zs ⟨rfl, hi, p⟩
  obtain ⟨s1, q1, q2⟩ := hD D i σ' H' zs hDn p
  refine ⟨q1, by omega, ?_⟩
  by_cases hlt : i < xs.length
  · refine .inr ⟨⟨xs, xs[i], SqT.of s1, by simp [hlt]⟩, Pv D (i + 1), fun σ2 H2 zs z => ⟨xs.length - (i + 1), by omega, rfl, hlt, z⟩, fun v H'' y => ?_⟩
    obtain ⟨e1, e2⟩ := y
    subst e1
    exact hs D i σ' _ zs v hDn (e2 xs (SqT.of s1)) p
  · have e : i = xs.length := by omega
    subst e
    exact .inl ⟨⟨xs, SqT.of s1, Nat.le_refl _⟩, hd D σ' H' zs hDn p⟩
end
end L2
end
section
/-! values as trees, and == of them -/
namespace L2
open PySem PySem.Spec PyProof.Rows
inductive Tr where
  | non
  | bl (b : Bool)
  | int (i : Int)
  | str (x : Str)
  | lst (ts : List Tr)
  | tup (ts : List Tr)
mutual
def TAt (H : Hp) : Tr → V → Prop
  | .non, v => v = .non
  | .bl b, v => v = .bl b
  | .int i, v => v = .int i
  | .str x, v => v = .str x
  | .lst ts, v => ∃ a vs, v = .ref a ∧ H a = some (.lst vs) ∧ TsAt H ts vs
  | .tup ts, v => ∃ a vs, v = .ref a ∧ H a = some (.tup vs) ∧ TsAt H ts vs
def TsAt (H : Hp) : List Tr → List V → Prop
  | [], vs => vs = []
  | t :: ts, vs => ∃ v r, vs = v :: r ∧ TAt H t v ∧ TsAt H ts r
end
mutual
def dep : Tr → Nat
  | .lst ts => deps ts + 1
  | .tup ts => deps ts + 1
  | _ => 0
def deps : List Tr → Nat
  | [] => 0
  | t :: ts => max (dep t) (deps ts)
end
mutual
def eqT : Tr → Tr → Bool
  | .non, .non => true
  | .bl a, .bl b => a == b
  | .bl a, .int b => (if a then 1 else 0) == b
  | .int a, .bl b => a == (if b then 1 else 0)
  | .int a, .int b => a == b
  | .str a, .str b => a == b
  | .lst a, .lst b => eqTs a b
  | .tup a, .tup b => eqTs a b
  | _, _ => false
def eqTs : List Tr → List Tr → Bool
  | [], [] => true
  | a :: as, b :: bs => eqT a b && eqTs as bs
  | _, _ => false
end
mutual
theorem eqT_self : ∀ t : Tr, eqT t t = true
  | .non => by simp [eqT]
  | .bl b => by simp [eqT]
  | .int i => by simp [eqT]
  | .str x => by simp [eqT]
  | .lst ts => by rw [eqT]; exact eqTs_self ts
  | .tup ts => by rw [eqT]; exact eqTs_self ts
theorem eqTs_self : ∀ ts : List Tr, eqTs ts ts = true
  | [] => by simp [eqTs]
  | t :: ts => by rw [eqTs, eqT_self t, eqTs_self ts]; rfl
end
mutual
theorem TAt.ext {H H' : Hp} (e : Ext H H') : ∀ {t : Tr} {v : V}, TAt H t v → TAt H' t v
  | .non, _, h => h
  | .bl _, _, h => h
  | .int _, _, h => h
  | .str _, _, h => h
  | .lst ts, _, ⟨a, vs, q, h, r⟩ => ⟨a, vs, q, e _ _ h, TsAt.ext e r⟩
  | .tup ts, _, ⟨a, vs, q, h, r⟩ => ⟨a, vs, q, e _ _ h, TsAt.ext e r⟩
theorem TsAt.ext {H H' : Hp} (e : Ext H H') : ∀ {ts : List Tr} {vs : List V}, TsAt H ts vs → TsAt H' ts vs
  | [], _, h => h
  | t :: ts, _, ⟨v, r, q, h, s⟩ => ⟨v, r, q, TAt.ext e h, TsAt.ext e s⟩
end
mutual
theorem TAt.inj {H : Hp} : ∀ {t u : Tr} {v : V}, TAt H t v → TAt H u v → t = u
  | .non, u, _, h, h' => by
    cases (show _ = V.non from h)
    cases u with
    | non => rfl
    | bl b => cases (show V.non = _ from h')
    | int b => cases (show V.non = _ from h')
    | str b => cases (show V.non = _ from h')
    | lst ts => obtain ⟨_, _, q, _⟩ := h'; cases q
    | tup ts => obtain ⟨_, _, q, _⟩ := h'; cases q
  | .bl b, u, _, h, h' => by
    cases (show _ = V.bl b from h)
    cases u with
    | non => cases (show V.bl b = _ from h')
    | bl b => cases (show V.bl _ = V.bl b from h'); rfl
    | int i => cases (show V.bl b = V.int i from h')
    | str i => cases (show V.bl b = V.str i from h')
    | lst ts => obtain ⟨_, _, q, _⟩ := h'; cases q
    | tup ts => obtain ⟨_, _, q, _⟩ := h'; cases q
  | .int b, u, _, h, h' => by
    cases (show _ = V.int b from h)
    cases u with
    | non => cases (show V.int b = _ from h')
    | bl i => cases (show V.int b = V.bl i from h')
    | int b => cases (show V.int _ = V.int b from h'); rfl
    | str i => cases (show V.int b = V.str i from h')
    | lst ts => obtain ⟨_, _, q, _⟩ := h'; cases q
    | tup ts => obtain ⟨_, _, q, _⟩ := h'; cases q
  | .str b, u, _, h, h' => by
    cases (show _ = V.str b from h)
    cases u with
    | non => cases (show V.str b = _ from h')
    | bl i => cases (show V.str b = V.bl i from h')
    | int i => cases (show V.str b = V.int i from h')
    | str b => cases (show V.str _ = V.str b from h'); rfl
    | lst ts => obtain ⟨_, _, q, _⟩ := h'; cases q
    | tup ts => obtain ⟨_, _, q, _⟩ := h'; cases q
  | .lst ts, u, _, ⟨a, vs, q, h, r⟩, h' => by
    subst q
    cases u with
    | non => cases (show V.ref a = _ from h')
    | bl i => cases (show V.ref a = V.bl i from h')
    | int i => cases (show V.ref a = V.int i from h')
    | str i => cases (show V.ref a = V.str i from h')
    | lst us =>
      obtain ⟨a', vs', q', h2, r'⟩ := h'
      cases q'
      rw [h] at h2
      cases h2
      rw [TsAt.inj r r']
    | tup us =>
      obtain ⟨a', vs', q', h2, r'⟩ := h'
      cases q'
      rw [h] at h2
      cases h2
  | .tup ts, u, _, ⟨a, vs, q, h, r⟩, h' => by
    subst q
    cases u with
    | non => cases (show V.ref a = _ from h')
    | bl i => cases (show V.ref a = V.bl i from h')
    | int i => cases (show V.ref a = V.int i from h')
    | str i => cases (show V.ref a = V.str i from h')
    | lst us =>
      obtain ⟨a', vs', q', h2, r'⟩ := h'
      cases q'
      rw [h] at h2
      cases h2
    | tup us =>
      obtain ⟨a', vs', q', h2, r'⟩ := h'
      cases q'
      rw [h] at h2
      cases h2
      rw [TsAt.inj r r']
theorem TsAt.inj {H : Hp} : ∀ {ts us : List Tr} {vs : List V}, TsAt H ts vs → TsAt H us vs → ts = us
  | [], us, _, h, h' => by
    cases (show _ = [] from h)
    cases us with
    | nil => rfl
    | cons u us => obtain ⟨_, _, q, _⟩ := h'; cases q
  | t :: ts, us, _, ⟨v, r, q, h, s⟩, h' => by
    subst q
    cases us with
    | nil => cases (show v :: r = [] from h')
    | cons u us =>
      obtain ⟨v', r', q, h2, s2⟩ := h'
      cases q
      rw [TAt.inj h h2, TsAt.inj s s2]
end
section
variable {X : Cx} {pins : List (Addr × Obj)} {σ : St} {H : Hp} {s : Shared}
end
end L2
end
section
/-! a list comprehension whose block has cells of its own (there is a comprehension within it), and what stands in it -/
namespace L2
open PySem PySem.Spec PyProof.Rows

/-! ### the cells of a block -/

/-! ### the block -/
section
variable {X : Cx} {tg iter elt : Expr} {ifs : List Expr} {sc : Scope} {pos : Pos} {wi : TI} {g : TG} {tt : TT} {te : TE} {m : List (Option Nat)} {Nc : List Str}

end
/-! the names in such a block, and in a block within it -/
section
variable {X : Cx} {sc : Scope} {cl : List (Str × Addr)} {C : Addr} {Nc : List Str} {fp : List Addr} {s : Shared} {H : Hp} {x : Str}
variable {sc2 : Scope} {cl2 : List (Str × Addr)} {C2 : Addr} {Nc2 : List Str} {fp2 : List Addr} {s2 : Shared} {H2 : Hp}
end
end L2
end
section
/-! more rules: extend by a tuple, count of a list, any, sorted of a list of ints, while, t[::-1], xs != [] -/
namespace L2
open PySem PySem.Spec PyProof.Rows
section
variable {X : Cx}
/-! any(list of truths) -/
/-! sorted of a list of ints -/
/-! xs != [] -/
/-! t[::-1] -/
theorem sliceApplied_rev {prog : Program} {w : World} {A : Around} {E : Value → Shared → Prop} {s : Shared} {sl : Addr} {vs : Value} {n : Nat} {Q : Int × Int × Nat → Shared → Prop} (hs : s.heap.IsSliceOf sl .none .none vs) (ps : IsPart vs (some (-1)))
    (h : Q (((n : Int) - 1), -1, n) s) : wpAny (model prog w) A (Builtin.Slice.sliceApplied (.ref sl) (pure (n : Int))) Q E s := by
  obtain ⟨os, hos, hcs, hds⟩ := id hs
  unfold Builtin.Slice.sliceApplied Builtin.Slice.sliceFields
  refine wpAny_bind (wpAny_bind (wpAny_field hos hds (x := .none) rfl (wpAny_bind (wpAny_field hos hds (x := .none) rfl (wpAny_bind (wpAny_field hos hds (x := vs) rfl (wpAny_pure ?_)))))))
  refine wpAny_bind (HT.slicePart_ ps ?_)
  show wpAny _ _ (if ((-1 : Int) == 0) = true then _ else _) _ _ s
  rw [if_neg (by decide)]
  refine wpAny_bind (slicePart_none (wpAny_bind (slicePart_none (wpAny_bind (wpAny_pure ?_)))))
  show wpAny _ _ (pure (((n : Int) - 1), (-1 : Int), Builtin.Slice.slicePlaces ((n : Int) - 1) (-1) (-1))) _ _ s
  have e : Builtin.Slice.slicePlaces ((n : Int) - 1) (-1) (-1) = n := by
    unfold Builtin.Slice.slicePlaces
    rw [if_neg (by decide)]
    have : (-(-1 : Int)) = 1 := rfl
    rw [this]
    split <;> omega
  rw [e]
  exact wpAny_pure h
theorem filterMap_some {α β : Type} {f : α → Option β} {g : α → β} : ∀ {l : List α}, (∀ k ∈ l, f k = some (g k)) → l.filterMap f = l.map g
  | [], _ => rfl
  | a :: r, h => by
    rw [List.filterMap_cons, h a List.mem_cons_self, List.map_cons, filterMap_some fun k hk => h k (List.mem_cons_of_mem _ hk)]
theorem rev_pick (xs : List Value) : ((List.range xs.length).filterMap fun (k : Nat) => xs.toArray[(((xs.length : Int) - 1) + (k : Int) * (-1)).toNat]?) = xs.reverse := by
  rw [filterMap_some (g := fun k => xs.reverse.getD k .none) fun k hk => ?_]
  · apply List.ext_getElem
    · simp
    · intro i h1 h2
      have h3 : i < xs.length := by simpa using h2
      simp [List.getD, h3]
  · have hk := List.mem_range.mp hk
    have e1 : (((xs.length : Int) - 1) + (k : Int) * (-1)).toNat = xs.length - 1 - k := by omega
    rw [e1]
    have h1 : xs.length - 1 - k < xs.length := by omega
    simp [List.getD, hk, h1]
theorem getItem_tuple_rev {prog : Program} {w : World} {A : Around} {E : Value → Shared → Prop} {s : Shared} {t sl : Addr} {its : List Value} {n : Nat} {vs : Value} {Q : Value → Shared → Prop}
    (e0 : s.heap.get? t = some { cls := .type "tuple", data := .seq its.toArray n }) (hs : s.heap.IsSliceOf sl .none .none vs) (ps : IsPart vs (some (-1))) (hz : its.length ≤ sizeLine)
    (h : Q (.ref s.heap.objs.size) { s with heap := s.heap.push { cls := .type "tuple", data := .seq its.reverse.toArray } }) : wpAny (model prog w) A (getItem (.ref t) (.ref sl)) Q E s := by
  have ht : IsTup s.heap t its.toArray := ⟨_, e0, rfl, n, rfl⟩
  obtain ⟨os, hos, hcs, hds⟩ := id hs
  have hTs : s.TypeIs (.ref sl) "slice" := ⟨os, hos, hcs⟩
  have htake : sizeOk (.seq its.reverse.toArray) := by
    show its.reverse.toArray.size ≤ sizeLine
    rw [List.size_toArray, List.length_reverse]
    exact hz
  unfold getItem
  try with_reducible refine wpAny_holding ?_
  first | refine wpAny_bind (wpAny_pure ?_) | skip
  refine wpAny_bind (wpAny_sequenceKey ht.typeIs (by decide) (wpAny_bind (wpAny_callSpecial?_slot (name := Str.ofString "__getitem__") ht.typeIs PyProof.Rows.slot_tuple_getitem
    (wpAny_call_entry PyProof.Rows.slot_tuple_getitem ht.typeIs entry_tuple_getitem (?_ : wpAny (model prog w) _ (Builtin.Tuple.tupleItemsOf (.ref t) >>= _) _ _ s) (args_tuple_getitem _ _)))))
  refine wpAny_bind (tupleItemsOf_ ht (wpAny_bind (wpAny_typeOf hTs ?_)))
  rw [if_pos (by decide)]
  refine wpAny_bind (sliceApplied_rev (n := its.toArray.size) hs ps ?_)
  have hno : ¬ ((((its.toArray.size : Int) - 1) == 0 && (-1 : Int) == 1 && its.toArray.size == its.toArray.size) = true) := by
    intro q
    rw [Bool.and_eq_true, Bool.and_eq_true] at q
    exact absurd q.1.2 (by decide)
  show wpAny _ _ (if (((its.toArray.size : Int) - 1) == 0 && (-1 : Int) == 1 && its.toArray.size == its.toArray.size) = true then _ else _) _ _ s
  rw [if_neg hno, List.size_toArray, rev_pick]
  first
    | exact wpAny_bind (m := Builtin.Tuple.tupleExact _) (wpAny_newObj_type (wpAny_pure ⟨_, rfl, wpAny_pure h⟩) htake)
    | exact wpAny_bind (m := Builtin.Tuple.tupleExact _) (wpAny_newObj_type (wpAny_bind (wpAny_pure (wpAny_pure ⟨_, rfl, wpAny_pure h⟩))) htake)
    | exact wpAny_bind (wpAny_bind (m := Builtin.Tuple.tupleExact _) (wpAny_newObj_type (wpAny_pure (wpAny_pure ⟨_, rfl, wpAny_pure h⟩)) htake))
    | exact wpAny_bind (wpAny_bind (m := Builtin.Tuple.tupleExact _) (wpAny_newObj_type (wpAny_pure ⟨_, rfl, wpAny_pure h⟩) htake))
def tRev (te : TE) (ts : TO) : TE := fun σ H Q => te σ H fun x H1 => ts σ H1 fun o H2 => o = some (-1) ∧ ∃ a xs, x = .ref a ∧ H2 a = some (.tup xs) ∧ TupR H2 xs.reverse Q
theorem je_rev {e st : Expr} {te : TE} {ts : TO} {p2 pos : Pos} (he : JE X e te) (hst : JO X (some st) ts) : JE X (.Subscript e (.Slice none none (some st) p2) pos) (tRev te ts) := ⟨by
  intro pins s σ H Q I h
  refine Subscript_ (thn (he.h pins s σ H _ I h) fun v s1 ⟨x, H1, I1, r1, q1⟩ => ?_)
  refine wpAny_Slice ?_
  rw [evalPart_none]
  refine wpAny_pure (wpAny_pure (thn (hst.h pins s1 σ H1 _ I1 q1) fun vst s2 ⟨o, H2, I2, ps, eo, a, xs, ex, hx, q⟩ => ?_))
  subst eo
  subst ex
  cases r1
  have I4 : Inv X pins σ H2 { s2 with heap := s2.heap.push { cls := .type "slice", data := .fields #[.none, .none, vst] } } := I2.kept (t' := s2.toks) fun b ob q => Heap.get?_push_of_some _ q
  obtain ⟨hz, its, r, n, e0⟩ := I4.hok a _ hx
  have hlen := r.length
  show wpAny (model X.prog X.w) X.A (subscriptTail e (.Slice none none (some st) p2) (.ref a) (.ref s2.heap.objs.size)) (EP X pins σ Q) X.xe { s2 with heap := s2.heap.push { cls := .type "slice", data := .fields #[.none, .none, vst] } }
  refine tail_any (ops := [.ref a, .ref s2.heap.objs.size]) ⟨_, e0, rfl⟩ PyProof.Rows.slot_tuple_getitem.lookup ?_ (by with_unfolding_all rfl)
  refine getItem_tuple_rev e0 (Heap.IsSliceOf.new ..) ps (by omega) ?_
  refine ⟨.ref _, _, I4.laid (t' := s2.toks) (o := .tup xs.reverse) (fun b ob q => Heap.get?_push_of_some _ q) (Nat.le_refl _) ⟨by rw [List.length_reverse]; exact hz, its.reverse, r.reverse, TupO.new _ _⟩, rfl, q.new (I4.hok.fresh (Nat.le_refl _))⟩⟩
theorem nm_sub {op : CmpOp} {a b : Expr} {pos : Pos} : behindInMarks op (.Subscript a b pos) = false := by cases op <;> rfl
theorem fo_lst {xs : List Expr} {pos : Pos} : FoOk (.List xs pos) := ⟨fun _ _ => rfl⟩
end
section
variable {X : Cx} {sc : Scope} {cl : List (Str × Addr)} {C : Addr} {Nc : List Str} {fp : List Addr} {s : Shared} {H : Hp}
end
end L2
end
section
/-! new lists, tuples and dicts told by what is kept -/
namespace L2
open PySem
theorem se_dict {es : List Expr} {env : Env} {pos : Pos} {ks : List (Option Expr)} {vs : List Expr} : starEach (.Dict ks vs pos :: es) env = (false, eval (.Dict ks vs pos) env) :: starEach es env := rfl
/-- a new list is told: this one -/
def LstR (H : Hp) (xs : List V) (Q : VK) : Prop := ∀ r H', H' r = some (.lst xs) → Ext H H' → H r = none → Q (.ref r) H'
theorem LstR.new {H : Hp} {xs : List V} {Q : VK} (q : LstR H xs Q) {p : Addr} (hp : H p = none) : Q (.ref p) (upd H p (.lst xs)) := q p _ upd_same ((Ext.refl H).new hp _) hp
def tTupU (t : TA) : TE := fun σ H Q => t σ H fun xs H1 => xs.length ≤ sizeLine ∧ TupR H1 xs Q
def tLstU (t : TA) : TE := fun σ H Q => t σ H fun xs H1 => xs.length ≤ sizeLine ∧ LstR H1 xs Q
def tDictU : TE := fun _ H Q => ∀ r H', H' r = some (.dK []) → Ext H H' → Q (.ref r) H'
section
variable {X : Cx} {es : List Expr} {t : TA} {pos : Pos}
theorem je_tupU {x1} (h : JA X es t) : JE X (.Tuple es x1 pos) (tTupU t) := ⟨fun pins s σ H Q I hq => by
  refine wpAny_Tuple_spliced (thn (h.h pos pins s σ H _ I hq) fun us s1 ⟨xs, H1, I1, r, z, q⟩ => ⟨by rw [← r.length]; exact z, ?_⟩)
  have hf : H1 s1.heap.objs.size = none := I1.hok.fresh (Nat.le_refl _)
  exact ⟨.ref s1.heap.objs.size, upd H1 s1.heap.objs.size (.tup xs), I1.laid (t' := s1.toks) (fun b u e => Heap.get?_push_of_some _ e) (Nat.le_refl _) ⟨z, us, r, TupO.new _ _⟩, rfl, q.new hf⟩⟩
theorem je_lstU (h : JA X es t) : JE X (.List es pos) (tLstU t) := ⟨fun pins s σ H Q I hq => by
  refine wpAny_List_spliced (thn (h.h pos pins s σ H _ I hq) fun us s1 ⟨xs, H1, I1, r, z, q⟩ => ⟨by rw [← r.length]; exact z, ?_⟩)
  have hf : H1 s1.heap.objs.size = none := I1.hok.fresh (Nat.le_refl _)
  exact ⟨.ref s1.heap.objs.size, upd H1 s1.heap.objs.size (.lst xs), I1.laid (t' := s1.toks) (fun b u e => Heap.get?_push_of_some _ e) (Nat.le_refl _) ⟨z, us, 0, r, Heap.get?_push_size _ rfl⟩, rfl, q.new hf⟩⟩
theorem je_dictU : JE X (.Dict [] [] pos) tDictU := ⟨fun pins s σ H Q I h => je_dict0.h pins s σ H Q I fun p hp => h p _ upd_same ((Ext.refl H).new hp _)⟩
theorem call_listU : CallR X (.type "list") (fun xs H Q => ∃ p ys, xs = [.ref p] ∧ H p = some (.tup ys) ∧ LstR H ys Q) := by
  intro pins s σ H xs us Q I r h
  obtain ⟨p, ys, rfl, hp, q⟩ := h
  exact call_list_of pins s σ H _ us Q I r ⟨p, ys, rfl, .inr (SqT.of hp), fun l hl => q.new hl⟩
theorem op_catLU : OpR X (binaryOp .Add) (fun x y H Q => ∃ l b xs zs, x = .ref l ∧ y = .ref b ∧ H l = some (.lst xs) ∧ H b = some (.lst zs) ∧ xs.length + zs.length ≤ sizeLine ∧ LstR H (xs ++ zs) Q) := by
  intro pins s σ H x y v u Q I rx ry h
  obtain ⟨l, b, xs, zs, rfl, rfl, h1, h2, h3, q⟩ := h
  exact op_cat pins s σ H _ _ v u Q I rx ry ⟨l, b, xs, zs, rfl, rfl, h1, h2, h3, fun p hp => q.new hp⟩
end
end L2
end
section
/-! // by a great number, *=, a, b = x, y, xs[i] = v in the closed forms, sorted of a tuple -/
namespace L2
open PySem PySem.Spec PyProof.Rows
section
variable {X : Cx}
end
end L2
end
section
/-! sum of a list of whole numbers; lots as masks -/
namespace L2
open PySem PySem.Spec PyProof.Rows
theorem preSum_list (ns : List Int) : ∀ j, preSum (fun i => ns.getD i 0) j = (ns.take j).sum
  | 0 => rfl
  | j + 1 => by
    rw [preSum, preSum_list ns j, List.take_add_one, List.sum_append]
    congr 1
    rw [List.getD_eq_getElem?_getD]
    cases ns[j]? with
    | none => rfl
    | some z => simp
section
variable {X : Cx}
def rSum (K : PySem.W.Frag) : List V → Hp → VK → Prop := fun xs H Q => ∃ (p : Addr) (ns : List Int), xs = [.ref p] ∧ (SqL K H p (ns.map V.int)) ∧ Q (.int ns.sum) H
theorem call_sumL (hc : X.calm = true) : CallR X (.builtin "sum") (rSum X.K) := by
  intro pins s σ H xs us Q I r h
  obtain ⟨p, ns, rfl, hq, q⟩ := h
  obtain ⟨u, rfl, rx⟩ := r.one
  cases rx
  obtain ⟨its, r', pl, hz⟩ := I.list hq
  have hlen := r'.length
  rw [List.length_map] at hlen
  refine call_sum_walkG (wpAny_pyIter_list pl.isList ?_)
  have hne : p ≠ s.heap.objs.size := by
    obtain ⟨o, ho, _⟩ := pl.isList
    exact Nat.ne_of_lt (Heap.lt_size ho)
  refine ⟨s.heap.objs.size, _, _, _, _, _, fun i => ns.getD i 0, rfl, Walks.list (by simpa using I.ok.hd hc) _ p hne its.toArray, ⟨⟨_, Heap.get?_push_size _ rfl, rfl, rfl⟩, pl.isList.push _⟩, (fun b hb => ?_), (fun i v hP => ?_), fun h' tk t' hk => ?_⟩
  · show b < (s.heap.push _).objs.size
    rw [Heap.size_push]
    obtain ⟨o, ho, _⟩ := pl.isList
    have := Heap.lt_size ho
    rcases List.mem_cons.mp hb with rfl | hb
    · exact Nat.lt_succ_self _
    · rcases List.mem_cons.mp hb with rfl | hb
      · exact Nat.lt_succ_of_lt this
      · cases hb
  · have hi : its[i]? = some v := by simpa using hP
    have hb : i < ns.length := by
      rw [hlen]
      exact (List.getElem?_eq_some_iff.mp hi).1
    obtain ⟨u, hu, ru⟩ := r'.get (i := i) (x := .int (ns[i])) (by simp [hb])
    rw [hi] at hu
    cases hu
    obtain ⟨t, rfl⟩ := ru
    exact ⟨t, by simp [List.getD, hb]⟩
  · have e : preSum (fun i => ns.getD i 0) its.toArray.size = ns.sum := by
      rw [preSum_list, List.size_toArray, ← hlen, List.take_length]
    rw [e]
    exact ⟨.int _, H, I.kept (t' := tk) fun b o e => hk b o (by
      intro z
      have z : b = s.heap.objs.size := by simpa using z
      exact absurd (Heap.lt_size e) (by rw [z]; exact Nat.lt_irrefl _)) (Heap.get?_push_of_some _ e), ⟨_, rfl⟩, q⟩
variable {sc : Scope} {cl : List (Str × Addr)} {C : Addr} {Nc : List Str} {fp : List Addr} {s : Shared} {H : Hp}
end
/-! a lot as a mask -/
end L2
end
section
namespace L2
open PySem
section
variable {X : Cx} {tg iter elt : Expr} {ifs : List Expr} {sc : Scope} {pos : Pos} {wi : TI} {g : TG} {tt : TT} {te : TE} {m : List (Option Nat)} {Nc : List Str}

end
section
variable {X : Cx}
end
end L2
end
section
/-! a, b = a list of two -/
namespace L2
open PySem PySem.Spec PyProof.Rows
section
variable {prog : Program} {w : World} {A : Around} {E : Value → Shared → Prop}
theorem draw_lst {it l : Addr} {xs : Array Value} (ne : l ≠ it) : ∀ (n i : Nat) (s : Shared) (Q : List Value → Shared → Prop), s.heap.IsListIter it l i → s.heap.IsList l xs → i + n ≤ xs.size →
    (∀ h', h'.IsListIter it l (i + n) → Heap.SameBut it s.heap h' → Q ((xs.toList.drop i).take n) { s with heap := h' }) → wpAny (model prog w) A (draw (.ref it) n) Q E s
  | 0, i, s, Q, g, _, _, k => by
    refine (?_ : wpAny _ _ (pure []) Q E s)
    exact wpAny_pure (by simpa using k s.heap g (Heap.SameBut.refl ..))
  | n + 1, i, s, Q, g, o, le, k => by
    have lt : i < xs.size := by omega
    refine (?_ : wpAny _ _ (pyNext (.ref it) >>= _) Q E s)
    refine wpAny_bind (wpAny_pyNext_list_item g o (x := xs[i]) (by simp [lt]) fun p1 g1 q1 => ?_)
    refine wpAny_bind (wpAny_holding (draw_lst ne n (i + 1) _ _ g1 (o.extBut q1.extBut ne) (by omega) fun p2 g2 q2 => wpAny_pure ?_))
    have hd : xs.toList.drop i = xs[i] :: xs.toList.drop (i + 1) := by simp [List.drop_eq_getElem_cons, lt]
    have := k p2 (by rw [show i + (n + 1) = i + 1 + n by omega]; exact g2) (q1.trans q2)
    rw [hd, List.take_succ_cons] at this
    exact this
theorem unpackItems_lst {s : Shared} {l : Addr} {xs : Array Value} {Q : List Value → Shared → Prop} (hh : A.handled = none) (o : s.heap.IsList l xs)
    (k : ∀ h', Heap.ExtBut s.heap.objs.size s.heap h' → Q xs.toList { s with heap := h' }) : wpAny (model prog w) A (unpackItems (.ref l) xs.size none) Q E s := by
  have ne : l ≠ s.heap.objs.size := by obtain ⟨u, hu, _⟩ := o; exact Nat.ne_of_lt (Heap.lt_size hu)
  unfold unpackItems
  refine wpAny_bind (by
    unfold notIterableAtAll
    refine wpAny_bind (wpAny_specialOf o.typeIs slot_list_iter.lookup (wpAny_pure ?_))
    simp only [Bool.false_eq_true, if_false]
    refine wpAny_bind (wpAny_holding (wpAny_pyIter_list o ?_))
    refine wpAny_bind (wpAny_holding (draw_lst ne xs.size 0 _ _ ⟨_, Heap.get?_push_size _ rfl, rfl, rfl⟩ (o.push _) (by omega) fun p1 g1 q1 => ?_))
    have hall : List.take xs.size (List.drop 0 xs.toList) = xs.toList := by rw [List.drop_zero]; exact List.take_of_length_le (by simp)
    rw [hall, if_neg (by simp)]
    have o1 : p1.IsList l xs := (o.push _).extBut q1.extBut ne
    refine wpAny_bind (wpAny_holding (wpAny_pyNext_list_end hh g1 o1 (by simp) fun p2 e2 => ?_))
    simp only [Option.isSome_none, Bool.false_eq_true, if_false]
    exact wpAny_pure (k p2 fun b u hb e => e2 b u hb (q1.extBut b u hb (Heap.get?_push_of_some _ e))))
end
section
variable {X : Cx}
def gLst (K : PySem.W.Frag) (n : Nat) (t : TGs) : TG := fun v σ H Q => ∃ a xs, v = .ref a ∧ SqL K H a xs ∧ xs.length = n ∧ t xs σ H Q
theorem pg_lst {es : List Expr} {k : Nat} {t : TGs} {n : Nat} {pos : Pos} (hc : X.calm = true) (h : PGs X es t)
    (hn : (assignEach es X.env).length = n := by rfl) (hst : (assignEach es X.env).findIdx? (·.1) = none := by rfl) : PG X (.Tuple es k pos) (gLst X.K n t) := by
  intro pins s σ H v u Q I r hw
  obtain ⟨a, xs, e1, hq, hl, hw⟩ := hw
  subst e1
  cases r
  obtain ⟨its, rv, ht, hz⟩ := I.list hq
  rw [assign_Tuple]
  refine wpAny_bind (wpAny_standAt ?_)
  unfold unpack
  rw [hn, hst, show n = its.toArray.size by rw [List.size_toArray, ← rv.length, hl]]
  refine wpAny_bind (wpAny_holding (unpackItems_lst (I.ok.hd hc) ht.isList fun h' hx => ?_))
  have I1 : Inv X pins σ H { s with heap := h' } := I.kept (t' := s.toks) fun b o e => hx b o (Nat.ne_of_lt (Heap.lt_size e)) e
  exact h pins _ σ H xs _ Q I1 (by simpa using rv) hw
end
theorem jg_twoL_d {P : Program} {w : World} {K : PySem.W.Frag} {mg : Str → Option Value} {base : Heap} {N : List Str} {qual : Str} {sc : Scope} {f : Addr} {cdv : Value} {A : Around} {outer : List Env} {s : Shared} {H : Hp} {E : XK} {x y : Str} {p1 p2 pos : Pos} {k i j : Nat} (hN : N.Nodup) (hi : N[i]? = some x) (hj : N[j]? = some y) (hx : sc.names.lookup x = some .local) (hy : sc.names.lookup y = some .local) :
    JG (cxOf CX0 P w K mg base N qual sc f cdv A outer s H E).nox (.Tuple [.Name x p1, .Name y p2] k pos) (gLst K 2 (gCons (gName i) (gCons (gName j) gNil))) :=
  ⟨pg_lst (X := (cxOf CX0 P w K mg base N qual sc f cdv A outer s H E).nox) rfl (jgs_cons (jg_name hN hi (loc_l hx)) (jgs_cons (jg_name hN hj (loc_l hy)) jgs_nil as_name) as_name).h⟩
end L2
end
section
namespace L2
open PySem PySem.Spec PyProof.Rows
/-! ### lists of pairs as tables -/
section
variable {κ : Type} [DecidableEq κ]
def valV (kvs : List (κ × V)) (k : κ) : Option V := (kvs.find? fun kv => decide (kv.1 = k)).map (·.2)
/-- in its place, or at the end -/
def putK (kvs : List (κ × V)) (k : κ) (v : V) : List (κ × V) :=
  if (kvs.any fun kv => decide (kv.1 = k)) = true then kvs.map (fun kv => if kv.1 = k then (kv.1, v) else kv) else kvs ++ [(k, v)]

theorem valV_pos {p : κ × V} {r : List (κ × V)} {k : κ} (e : p.1 = k) : valV (p :: r) k = some p.2 := by simp [valV, List.find?_cons, e]
theorem valV_neg {p : κ × V} {r : List (κ × V)} {k : κ} (e : ¬ p.1 = k) : valV (p :: r) k = valV r k := by simp [valV, List.find?_cons, e]
theorem valV_any (k : κ) : ∀ kvs : List (κ × V), (kvs.any fun kv => decide (kv.1 = k)) = (valV kvs k).isSome
  | [] => rfl
  | p :: r => by
    rw [List.any_cons]
    by_cases e : p.1 = k
    · simp only [valV_pos e, decide_eq_true e, Bool.true_or, Option.isSome_some]
    · rw [valV_neg e, decide_eq_false e, Bool.false_or]; exact valV_any k r
theorem valV_map (k j : κ) (y : V) : ∀ kvs : List (κ × V), valV (kvs.map fun kv => if kv.1 = k then (kv.1, y) else kv) j = (valV kvs j).map fun x => if j = k then y else x
  | [] => rfl
  | p :: r => by
    have ih := valV_map k j y r
    rw [List.map_cons]
    by_cases h : p.1 = k
    · rw [if_pos h]
      by_cases e : p.1 = j
      · rw [valV_pos (p := (p.1, y)) e, valV_pos e, Option.map_some, if_pos (e.symm.trans h)]
      · rw [valV_neg (p := (p.1, y)) e, valV_neg e, ih]
    · rw [if_neg h]
      by_cases e : p.1 = j
      · rw [valV_pos (p := p) e, valV_pos e, Option.map_some, if_neg (fun z => h (e.trans z))]
      · rw [valV_neg (p := p) e, valV_neg e, ih]
theorem valV_snoc (k j : κ) (y : V) : ∀ kvs : List (κ × V), valV kvs k = none → valV (kvs ++ [(k, y)]) j = if j = k then some y else valV kvs j
  | [], _ => by
    by_cases e : k = j
    · rw [if_pos e.symm]; exact valV_pos (p := (k, y)) e
    · rw [if_neg (fun z => e z.symm)]; exact valV_neg (p := (k, y)) e
  | p :: r, hn => by
    rw [List.cons_append]
    have hk : ¬ p.1 = k := fun z => by rw [valV_pos z] at hn; cases hn
    rw [valV_neg hk] at hn
    have ih := valV_snoc k j y r hn
    by_cases e : p.1 = j
    · rw [valV_pos e, valV_pos e, if_neg (fun z => hk (e.trans z))]
    · rw [valV_neg e, valV_neg e, ih]
theorem valV_put (kvs : List (κ × V)) (k j : κ) (y : V) : valV (putK kvs k y) j = if j = k then some y else valV kvs j := by
  unfold putK
  by_cases a : (kvs.any fun kv => decide (kv.1 = k)) = true
  · rw [if_pos a, valV_map]
    rw [valV_any] at a
    by_cases e : j = k
    · obtain ⟨x, hx⟩ := Option.isSome_iff_exists.mp a
      rw [if_pos e, e, hx, Option.map_some, if_pos rfl]
    · rw [if_neg e]
      cases valV kvs j with
      | none => rfl
      | some x => rw [Option.map_some, if_neg e]
  · rw [if_neg a]
    refine valV_snoc k j y kvs ?_
    rw [valV_any] at a
    cases q : valV kvs k with
    | none => rfl
    | some x => rw [q] at a; exact (a rfl).elim
theorem length_putK (kvs : List (κ × V)) (k : κ) (v : V) : (putK kvs k v).length ≤ kvs.length + 1 := by
  unfold putK
  split
  · rw [List.length_map]; omega
  · rw [List.length_append, List.length_cons, List.length_nil]; omega
theorem putK_new {kvs : List (κ × V)} {k : κ} (v : V) (h : valV kvs k = none) : putK kvs k v = kvs ++ [(k, v)] := by
  unfold putK
  rw [valV_any, h]
  exact if_neg (by decide)

theorem RelO.isSome_eq {o : Option V} {u : Option Value} (r : RelO o u) : o.isSome = u.isSome := by
  cases o with
  | none => cases u with
    | none => rfl
    | some _ => exact (show False from r).elim
  | some _ => cases u with
    | none => exact (show False from r).elim
    | some _ => rfl
theorem RelO.getD {o : Option V} {u : Option Value} {d : V} {d' : Value} (r : RelO o u) (rd : RelV d d') : RelV (o.getD d) (u.getD d') := by
  cases o with
  | none => cases u with
    | none => exact rd
    | some _ => exact (show False from r).elim
  | some _ => cases u with
    | none => exact (show False from r).elim
    | some _ => exact r

/-- raw tables of the same keys -/
theorem KV.val {kvs : List (κ × V)} {vs : List (κ × Value)} (r : KV kvs vs) (k : κ) : RelO (valV kvs k) (valueAt vs k) := by
  unfold KV at r
  induction r with
  | nil => exact True.intro
  | @cons p q ps qs h t ih =>
    obtain ⟨h1, h2⟩ := h
    by_cases e : p.1 = k
    · have e' : q.1 = k := h1.symm.trans e
      have b : valueAt (q :: qs) k = some q.2 := by simp [valueAt, List.find?_cons, e']
      rw [valV_pos e, b]; exact h2
    · have e' : ¬ q.1 = k := fun z => e (h1.trans z)
      have b : valueAt (q :: qs) k = valueAt qs k := by simp [valueAt, List.find?_cons, e']
      rw [valV_neg e, b]; exact ih
theorem KV.any {kvs : List (κ × V)} {vs : List (κ × Value)} (r : KV kvs vs) (k : κ) : (kvs.any fun kv => decide (kv.1 = k)) = vs.any fun kv => decide (kv.1 = k) := by
  unfold KV at r
  induction r with
  | nil => rfl
  | cons h t ih => rw [List.any_cons, List.any_cons, ih, h.1]
theorem KV.repl {kvs : List (κ × V)} {vs : List (κ × Value)} (r : KV kvs vs) (k : κ) {y : V} {u : Value} (ry : RelV y u) :
    KV (kvs.map fun kv => if kv.1 = k then (kv.1, y) else kv) (vs.map fun kv => if kv.1 = k then (kv.1, u) else kv) := by
  unfold KV at r ⊢
  induction r with
  | nil => exact .nil
  | @cons p q ps qs h t ih =>
    rw [List.map_cons, List.map_cons]
    refine .cons ?_ ih
    obtain ⟨h1, h2⟩ := h
    by_cases e : p.1 = k
    · rw [if_pos e, if_pos (h1.symm.trans e)]; exact ⟨h1, ry⟩
    · rw [if_neg e, if_neg (fun z => e (h1.trans z))]; exact ⟨h1, h2⟩
theorem KV.put {kvs : List (κ × V)} {vs : List (κ × Value)} (r : KV kvs vs) (k : κ) {y : V} {u : Value} (ry : RelV y u) : KV (putK kvs k y) (stored vs k u) := by
  unfold putK stored
  rw [r.any k]
  by_cases e : (vs.any fun kv => decide (kv.1 = k)) = true
  · rw [if_pos e, if_pos e]; exact r.repl k ry
  · rw [if_neg e, if_neg e]; exact Paired.snoc r ⟨rfl, ry⟩
theorem KV.keys {kvs : List (κ × V)} {vs : List (κ × Value)} (r : KV kvs vs) : kvs.map (·.1) = vs.map (·.1) := by
  unfold KV at r
  induction r with
  | nil => rfl
  | cons h t ih => rw [List.map_cons, List.map_cons, ih, h.1]
theorem KV.length {kvs : List (κ × V)} {vs : List (κ × Value)} (r : KV kvs vs) : kvs.length = vs.length := Paired.length r
end


/-! ### a tracked dict, its keys ints and texts or tuples of these -/
theorem kV_is {P : Program} {w : World} {k : Key} {u : Value} (r : RelV (kV k) u) : (mixKind P w).is k u = true := by
  cases k with
  | inl i => obtain ⟨t, e⟩ := (show ∃ t, u = Value.int i t from r); subst e; exact mixKind_int P w i t
  | inr x => obtain ⟨t, e⟩ := (show ∃ t, u = Value.str x t from r); subst e; exact mixKind_str P w x t
theorem items_are {P : Program} {w : World} : ∀ {ks : List Key} {us : List Value}, Vals (ks.map kV) us → ItemsAre (mixKind P w) ks us
  | [], _, r => by rw [List.map_nil] at r; cases r; exact .nil
  | k :: ks, _, r => by
    rw [List.map_cons] at r
    cases r with
    | cons h t => exact .cons (kV_is h) (items_are t)

/-- raw entries of a dict with tuple keys -/
abbrev KT (H : Hp) : List (List Key × V) → List (List Key × Addr × Value) → Prop := Paired fun p q => p.1 = q.1 ∧ H q.2.1 = some (.tup (p.1.map kV)) ∧ RelV p.2 q.2.2
theorem KT.val {H : Hp} {kvs : List (List Key × V)} {xs : List (List Key × Addr × Value)} (r : KT H kvs xs) (k : List Key) : RelO (valV kvs k) ((atKey xs k).map (·.2)) := by
  induction r with
  | nil => exact True.intro
  | @cons p q ps qs h t ih =>
    obtain ⟨h1, _, h2⟩ := h
    by_cases e : p.1 = k
    · have e' : q.1 = k := h1.symm.trans e
      have b : atKey (q :: qs) k = some q.2 := by simp [atKey, List.find?_cons, e']
      rw [valV_pos e, b]; exact h2
    · have e' : ¬ q.1 = k := fun z => e (h1.trans z)
      have b : atKey (q :: qs) k = atKey qs k := by simp [atKey, List.find?_cons, e']
      rw [valV_neg e, b]; exact ih
theorem KT.repl {H : Hp} {kvs : List (List Key × V)} {xs : List (List Key × Addr × Value)} (r : KT H kvs xs) (k : List Key) {y : V} {u : Value} (ry : RelV y u) :
    KT H (kvs.map fun kv => if kv.1 = k then (kv.1, y) else kv) (xs.map (putAt k u)) := by
  induction r with
  | nil => exact .nil
  | @cons p q ps qs h t ih =>
    rw [List.map_cons, List.map_cons]
    refine .cons ?_ ih
    obtain ⟨h1, h2, h3⟩ := h
    unfold putAt
    by_cases e : p.1 = k
    · rw [if_pos e, if_pos (h1.symm.trans e)]; exact ⟨h1, h2, ry⟩
    · rw [if_neg e, if_neg (fun z => e (h1.trans z))]; exact ⟨h1, h2, h3⟩
theorem KT.put {H : Hp} {kvs : List (List Key × V)} {xs : List (List Key × Addr × Value)} (r : KT H kvs xs) (k : List Key) {b : Addr} {y : V} {u : Value} (hb : H b = some (.tup (k.map kV))) (ry : RelV y u) :
    KT H (putK kvs k y) (storedH xs k b u) := by
  have e : (kvs.any fun kv => decide (kv.1 = k)) = (atKey xs k).isSome := by
    rw [valV_any, (r.val k).isSome_eq, Option.isSome_map]
  unfold putK storedH
  rw [e]
  by_cases q : (atKey xs k).isSome = true
  · rw [if_pos q, if_pos q]; exact r.repl k ry
  · rw [if_neg q, if_neg q]; exact Paired.snoc r ⟨rfl, hb, ry⟩
theorem KT.keeps {H H' : Hp} {kvs : List (List Key × V)} {xs : List (List Key × Addr × Value)} (r : KT H kvs xs) (ht : ∀ b ys, H b = some (.tup ys) → H' b = some (.tup ys)) : KT H' kvs xs :=
  Paired.mapP r fun _ _ z => ⟨z.1, ht _ _ z.2.1, z.2.2⟩

section
variable {P : Program} {w : World} {H : Hp} {h : Heap} {a : Addr}
theorem rd_of {u : HO} (ok : HOk P w H h) (e : Rd H a u) : ObjOk P w H h a u := e.ok ok
theorem dk_rd {kvs : List (Key × V)} (ok : HOk P w H h) (e : Rd H a (.dK kvs)) : kvs.length ≤ sizeLine ∧ (a == sysModules) = false ∧ ∃ vs, KV kvs vs ∧ h.DictOf (mixKind P w) a vs :=
  show ObjOk P w H h a (.dK kvs) from rd_of ok e
theorem dk_of {kvs : List (Key × V)} (ok : HOk P w H h) (e : H a = some (.dK kvs)) : kvs.length ≤ sizeLine ∧ (a == sysModules) = false ∧ ∃ vs, KV kvs vs ∧ h.DictOf (mixKind P w) a vs := dk_rd ok (.inl e)
/-- a tracked tuple of ints and texts is a key -/
theorem key_of {ks : List Key} (ok : HOk P w H h) (e : H a = some (.tup (ks.map kV))) : (tupleKind (mixKind P w)).is h ks a := by
  obtain ⟨_, its, r, p⟩ := (show ObjOk P w H h a (.tup (ks.map kV)) from ok a _ e)
  obtain ⟨o, h1, h2, n, h3⟩ := p.isTup
  exact ⟨o, its.toArray, n, h1, h2, h3, by simpa using items_are r⟩
theorem dt_rd {kvs : List (List Key × V)} (ok : HOk P w H h) (e : Rd H a (.dT kvs)) : kvs.length ≤ sizeLine ∧ (a == sysModules) = false ∧
    ∃ xs, KT H kvs xs ∧ h.DictOfH (tupleKind (mixKind P w)) a xs := by
  obtain ⟨z, y, xs, r, o, es, ep, h1, h2, h3, h4, h5⟩ := (show ObjOk P w H h a (.dT kvs) from rd_of ok e)
  refine ⟨z, y, xs, r, o, es, ep, h1, h2, h3, h4, fun x hx => ?_, h5⟩
  have all : ∀ {l : List (List Key × V)} {m : List (List Key × Addr × Value)}, KT H l m → ∀ x ∈ m, (tupleKind (mixKind P w)).is h x.1 x.2.1 := by
    intro l m q
    induction q with
    | nil => intro x hx; exact nomatch hx
    | @cons p q ps qs hq t ih =>
      intro x hx
      rcases List.mem_cons.mp hx with e | hx
      · subst e
        exact key_of ok (by rw [← hq.1]; exact hq.2.1)
      · exact ih x hx
  exact all r x hx
theorem dt_of {kvs : List (List Key × V)} (ok : HOk P w H h) (e : H a = some (.dT kvs)) : kvs.length ≤ sizeLine ∧ (a == sysModules) = false ∧
    ∃ xs, KT H kvs xs ∧ h.DictOfH (tupleKind (mixKind P w)) a xs := dt_rd ok (.inl e)
end

/-- what the dict at a holds at the key y -/
def DGet (H : Hp) (a : Addr) (y : V) (r : Option V) : Prop :=
  (∃ kvs k, Rd H a (.dK kvs) ∧ y = kV k ∧ r = valV kvs k) ∨ ∃ kvs k b, Rd H a (.dT kvs) ∧ y = .ref b ∧ H b = some (.tup (k.map kV)) ∧ r = valV kvs k
/-- the heap behind a[y] = v -/
def DPut (H : Hp) (a : Addr) (y v : V) (H' : Hp) : Prop :=
  (∃ kvs k, H a = some (.dK kvs) ∧ y = kV k ∧ kvs.length < sizeLine ∧ H' = upd H a (.dK (putK kvs k v))) ∨
  ∃ kvs k b, H a = some (.dT kvs) ∧ y = .ref b ∧ H b = some (.tup (k.map kV)) ∧ kvs.length < sizeLine ∧ H' = upd H a (.dT (putK kvs k v))
theorem DGet.k {H : Hp} {a : Addr} {kvs : List (Key × V)} {k : Key} (e : H a = some (.dK kvs)) : DGet H a (kV k) (valV kvs k) := .inl ⟨kvs, k, .inl e, rfl, rfl⟩
theorem DPut.k {H : Hp} {a : Addr} {kvs : List (Key × V)} {k : Key} {v : V} (e : H a = some (.dK kvs)) (hl : kvs.length < sizeLine) : DPut H a (kV k) v (upd H a (.dK (putK kvs k v))) := .inl ⟨kvs, k, e, rfl, hl, rfl⟩


section
variable {X : Cx} {pins : List (Addr × Obj)} {σ : St} {H : Hp} {s : Shared} {a : Addr} {y v : V} {u r : Value} {o : Option V} {A : Around} {E : Value → Shared → Prop}


/-- d[y], there -/
theorem d_getItem {Q : Value → Shared → Prop} (hu : A.units + 1 < cLine) (I : Inv X pins σ H s) (g : DGet H a y (some v)) (ry : RelV y u) (h : ∀ w' s', Inv X pins σ H s' → RelV v w' → Q w' s') :
    wpAny (model X.prog X.w) A (getItem (.ref a) u) Q E s := by
  rcases g with ⟨kvs, k, e, ey, l⟩ | ⟨kvs, k, b, e, ey, eb, l⟩
  · subst ey
    obtain ⟨z, hd, vs, rel, dd⟩ := dk_rd I.hok e
    obtain ⟨w', hw, rw'⟩ := RelO.some_of (v := v) (o := valueAt vs k) (by rw [l]; exact rel.val k)
    exact wpAny_getItem_of (kV_is ry) dd.mapOf hw (h w' _ (I.tok _) rw')
  · subst ey
    cases (show u = Value.ref b from ry)
    obtain ⟨z, hd, xs, rel, dd⟩ := dt_rd I.hok e
    obtain ⟨w', hw, rw'⟩ := RelO.some_of (v := v) (o := (atKey xs k).map (·.2)) (by rw [l]; exact rel.val k)
    obtain ⟨p, hp, hp2⟩ := Option.map_eq_some_iff.mp hw
    refine wpAny_getItem_heap (tupleKind_room_in1 hu) (key_of I.hok eb) dd hp ?_
    rw [hp2]
    exact h w' _ (I.tok _) rw'
/-- a dict's object is replaced -/
theorem d_write {h' : Heap} {t' : Nat} {ob : HO} (I : Inv X pins σ H s) (mu : Mut (H a)) (hs : Heap.SameBut a s.heap h') (he : ∃ q, h'.get? a = some q) (new : ObjOk X.prog X.w (upd H a ob) h' a ob) :
    Inv X pins σ (upd H a ob) { s with heap := h', toks := t' } :=
  I.write (x := a) (e := a) mu (.inl rfl) (fun b q hb z => (hs.2 b hb).trans z) he new
theorem dk_new {P : Program} {w : World} {H' : Hp} {h' : Heap} {kvs : List (Key × V)} {vs : List (Key × Value)} (z : kvs.length ≤ sizeLine) (hd : (a == sysModules) = false) (rel : KV kvs vs) (dd : h'.DictOf (mixKind P w) a vs) :
    ObjOk P w H' h' a (.dK kvs) := ⟨z, hd, vs, rel, dd⟩
/-- d[y] = v -/
theorem d_setItem {H' : Hp} {Q : Unit → Shared → Prop} (hu : A.units + 1 < cLine) (I : Inv X pins σ H s) (g : DPut H a y v H') (ry : RelV y u) (rv : RelV v r) (h : ∀ s', Inv X pins σ H' s' → Q () s') :
    wpAny (model X.prog X.w) A (setItem (.ref a) u r) Q E s := by
  rcases g with ⟨kvs, k, e, ey, l, eH⟩ | ⟨kvs, k, b, e, ey, eb, l, eH⟩
  · subst ey eH
    obtain ⟨z, hd, vs, rel, dd⟩ := dk_of I.hok e
    have hz : vs.length ≤ sizeLine := by rw [← rel.length]; exact z
    have hl : (putK kvs k v).length ≤ sizeLine := by have := length_putK kvs k v; omega
    refine wpAny_setItem_pairs (hsz := hz) (kV_is ry) dd fun h' dd' hs => h _ ?_
    have he : ∃ q, h'.get? a = some q := let ⟨q, _, _, hq, _⟩ := dd'; ⟨q, hq⟩
    exact d_write I (by rw [e]; exact True.intro) hs he (dk_new hl hd (rel.put k rv) dd')
  · subst ey eH
    cases (show u = Value.ref b from ry)
    obtain ⟨z, hd, xs, rel, dd⟩ := dt_of I.hok e
    have hz : xs.length ≤ sizeLine := by rw [← Paired.length rel]; exact z
    have hl : (putK kvs k v).length ≤ sizeLine := by have := length_putK kvs k v; omega
    refine wpAny_setItem_heap (hsz := hz) (tupleKind_room_in1 hu) (key_of I.hok eb) dd fun h' dd' hs => h _ ?_
    obtain ⟨q, es, ep, hq, h2, h3, h4, _, h5⟩ := dd'
    refine d_write I (by rw [e]; exact True.intro) hs ⟨q, hq⟩ ⟨hl, hd, _, (rel.put k eb rv).keeps fun c ys ec => ?_, q, es, ep, hq, h2, h3, h4, h5⟩
    rw [upd_ne (ne_of ec e (fun z => nomatch z))]
    exact ec
end

section
variable {X : Cx} {pins : List (Addr × Obj)} {σ : St} {H : Hp} {s : Shared} {a : Addr} {kvs : List (Key × V)} {k : Key} {u : Value} {A : Around} {E : Value → Shared → Prop}
end


/-! ### readings and rules -/
/-- the element of a subscription, not a slice -/
def NoSl (i : Expr) : Prop := ∀ ov iv, subscripted i false ov iv = operate [ov, iv] (getItem ov iv)
theorem subD_of {prog : Program} {w : World} {A : Around} {E : Value → Shared → Prop} {s : Shared} {env : Env} {value slice : Expr} {pos : Pos} {T id : String} {Q : Value → Shared → Prop}
    (hl : typeLookup (.type T) "__getitem__" = pure (some (.builtin id))) (hs : NoSl slice)
    (h : wpAny (model prog w) A (eval value env) (fun o s₁ => wpAny (model prog w) A (eval slice env) (fun i s₂ => s₂.TypeIs o T ∧ wpAny (model prog w) A (getItem o i) Q E s₂) E s₁) E s) :
    wpAny (model prog w) A (eval (.Subscript value slice pos) env) Q E s := by
  refine Subscript_ (wpAny_mono h (fun o s₁ h₁ => wpAny_mono h₁ (fun i s₂ h₂ => ?_) fun _ _ x => x) fun _ _ x => x)
  obtain ⟨hT, h₂⟩ := h₂
  unfold subscriptTail
  refine wpAny_bind ?_
  rw [getitemInPython_of_ne hT.not_modules]
  refine wpAny_bind (wpAny_specialOf hT hl ?_)
  have fin : wpAny (model prog w) A (subscripted slice false o i) (fun r s₃ => wpAny (model prog w) A (letTemporaryGo value o r >>= fun _ => pure r) Q E s₃) E s₂ := by
    rw [hs o i]
    exact wpAny_operating (wpAny_mono h₂ (fun r s₃ h₃ => wpAny_bind (wpAny_letTemporaryGo (wpAny_pure h₃))) fun _ _ x => x)
  first
    | exact wpAny_pure (wpAny_bind fin)
    | exact wpAny_bind (wpAny_pure (wpAny_bind fin))
    | exact wpAny_bind fin

theorem dict_typeIs {X : Cx} {pins : List (Addr × Obj)} {σ : St} {H : Hp} {s : Shared} {a : Addr} {y : V} {o : Option V} (I : Inv X pins σ H s) (g : DGet H a y o) : s.TypeIs (.ref a) "dict" := by
  rcases g with ⟨kvs, k, e, _, _⟩ | ⟨kvs, k, b, e, _, _, _⟩
  · obtain ⟨_, _, vs, _, dd⟩ := dk_rd I.hok e
    exact dd.typeIs
  · obtain ⟨_, _, xs, _, dd⟩ := dt_rd I.hok e
    exact dd.typeIs

/-- d[y] -/
def tDGet (td ty : TE) : TE := fun σ H Q => td σ H fun x H1 => ty σ H1 fun y H2 => ∃ a v, x = .ref a ∧ DGet H2 a y (some v) ∧ Q v H2
/-- d[y] = v -/
def sDPut (td ty tv : TE) : TS := fun D σ H => tv σ H fun v H1 => td σ H1 fun x H2 => ty σ H2 fun y H3 => ∃ a H4, x = .ref a ∧ DPut H3 a y v H4 ∧ D.nx σ H4

section
variable {X : Cx} {o i e value : Expr} {pos pos' tpos : Pos} {td ty tv : TE}
theorem pe_dget (hu : X.A.units + 1 < cLine) (ho : PE X o td) (hi : PE X i ty) (hs : NoSl i) : PE X (.Subscript o i pos) (tDGet td ty) := by
  intro pins s σ H Q I h
  refine subD_of PySem.F.slot_dict_getitem.lookup hs (thn (ho pins s σ H _ I h) fun u s1 ⟨x, H1, I1, rx, q1⟩ => thn (hi pins s1 σ H1 _ I1 q1) fun iv s2 ⟨y, H2, I2, ry, a, v, ex, g, q2⟩ => ?_)
  subst ex
  obtain rfl : u = Value.ref a := rx
  exact ⟨dict_typeIs I2 g, d_getItem hu I2 g ry fun w' s3 I3 rw' => ⟨v, H2, I3, rw', q2⟩⟩
theorem ps_dput (hu : X.A.units + 1 < cLine) (ho : PE X o td) (hi : PE X i ty) (hv : PE X value tv) (hs : swapsWith value (some (.Subscript o i pos')) pos.line X.env = pure false) :
    PS X (.Assign [.Subscript o i pos'] value pos) (sDPut td ty tv) := by
  intro pins s σ H D I h
  refine wpAny_Assign_Subscript (thn (hv pins s σ H _ I h) fun r s1 ⟨v, H1, I1, rv, q1⟩ => thn (ho pins s1 σ H1 _ I1 q1) fun u s2 ⟨x, H2, I2, rx, q2⟩ => thn (hi pins s2 σ H2 _ I2 q2) fun iv s3 ⟨y, H3, I3, ry, a, H4, ex, g, q3⟩ => ?_) hs
  subst ex
  obtain rfl : u = Value.ref a := rx
  exact d_setItem hu I3 g ry rv fun s4 I4 => ⟨σ, H4, I4, q3⟩
end


/-! ### displays -/
section
variable {X : Cx} {pos : Pos}
end




/-! ### methods -/
structure M2 (X : Cx) (o : Expr) (m : Str) (apos : Pos) (e f : Expr) (cpos : Pos) : Prop where
  base : attributeBase o m X.env (eval o X.env) = eval o X.env
  few : ((backTo cpos (starEach [e, f] X.env)).all (fun x => !x.1) && (backToKw cpos (keywordEach [] X.env)).all (fun x => x.1.isSome)
    && decide (([e, f] : List Expr).length + ([] : List Keyword).length + (if ([] : List Keyword).isEmpty then 0 else 1) < 30)) = true
  line : (apos.endLine == cpos.line) = true
  trees : backTo cpos (starEach [e, f] X.env) = [(false, eval e X.env), (false, eval f X.env)]

/-- a is a dict, whatever its keys -/
def IsD (H : Hp) (a : Addr) : Prop := (∃ kvs, Rd H a (.dK kvs)) ∨ ∃ kvs, Rd H a (.dT kvs)
theorem isD_at {X : Cx} {pins : List (Addr × Obj)} {σ : St} {H : Hp} {s : Shared} {a : Addr} (I : Inv X pins σ H s) (d : IsD H a) :
    s.TypeIs (.ref a) "dict" ∧ (∀ b, Value.ref a = .ref b → ∃ ob, s.heap.get? b = some ob ∧ ob.dict = none) ∧ (a == sysModules) = false := by
  rcases d with ⟨kvs, e⟩ | ⟨kvs, e⟩
  · obtain ⟨_, hd, vs, _, dd⟩ := dk_rd I.hok e
    refine ⟨dd.typeIs, fun b q => ?_, hd⟩
    cases q
    obtain ⟨ob, _, _, h1, h2, _⟩ := dd
    exact ⟨ob, h1, h2.2.1⟩
  · obtain ⟨_, hd, xs, _, dd⟩ := dt_rd I.hok e
    refine ⟨dd.typeIs, fun b q => ?_, hd⟩
    cases q
    obtain ⟨ob, _, _, h1, h2, _⟩ := dd
    exact ⟨ob, h1, h2.2.1⟩

section
variable {X : Cx} {pins : List (Addr × Obj)} {σ : St} {H : Hp} {s : Shared} {a : Addr} {y d : V} {u r : Value} {o : Option V} {A : Around} {E : Value → Shared → Prop}
/-- d.get(y, x) -/
theorem d_get2 {Q : Value → Shared → Prop} (hu : A.units + 1 < cLine) (I : Inv X pins σ H s) (g : DGet H a y o) (ry : RelV y u) (rd : RelV d r) (h : ∀ w' s', Inv X pins σ H s' → RelV (o.getD d) w' → Q w' s') :
    wpAny (model X.prog X.w) A (call (.builtin "dict.get") [.ref a, u, r]) Q E s := by
  rcases g with ⟨kvs, k, e, ey, l⟩ | ⟨kvs, k, b, e, ey, eb, l⟩
  · subst ey
    obtain ⟨z, hd, vs, rel, dd⟩ := dk_rd I.hok e
    refine call_meetsIn PySem.F.slot_dict_get dd.typeIs PySem.F.entry_dict_get (PySem.F.args_dict_get_3 _ _ _) (meets_dict_get_default (mixKind X.prog X.w) a (kV_is ry) hd r) ⟨_, dd.mapOf, h _ _ (I.tok _) ?_⟩
    rw [l]
    exact (rel.val k).getD rd
  · subst ey
    cases (show u = Value.ref b from ry)
    obtain ⟨z, hd, xs, rel, dd⟩ := dt_rd I.hok e
    refine call_meetsIn PySem.F.slot_dict_get dd.typeIs PySem.F.entry_dict_get (PySem.F.args_dict_get_3 _ _ _) (meetsH_dict_get_default (tupleKind (mixKind X.prog X.w)) a b hd r) ⟨tupleKind_room_in1 hu, k, xs, key_of I.hok eb, dd, h _ _ (I.tok _) ?_⟩
    rw [l]
    exact (rel.val k).getD rd
end

def tDGet2 (td ty tx : TE) : TE := fun σ H Q => td σ H fun x H1 => ∃ a, x = .ref a ∧ IsD H1 a ∧ ty σ H1 fun y H2 => tx σ H2 fun z H3 => ∃ o, DGet H3 a y o ∧ Q (o.getD z) H3
section
variable {X : Cx} {o e f : Expr} {apos cpos : Pos} {td ty tx : TE}
theorem pe_dget2 (hu : X.A.units + 1 < cLine) (ho : PE X o td) (he : PE X e ty) (hf : PE X f tx) (m : M2 X o "get" apos e f cpos) : PE X (.Call (.Attribute o "get" apos) [e, f] [] cpos) (tDGet2 td ty tx) := by
  intro pins s σ H Q I h
  refine wpAny_Call_method m.base m.few m.line PySem.F.plainAttrs_dict PySem.F.slot_dict_get PySem.F.type_dict_get (thn (ho pins s σ H _ I h) fun u s1 ⟨x, H1, I1, rx, a, ex, d, q1⟩ => ?_)
  subst ex
  obtain rfl : u = Value.ref a := rx
  obtain ⟨t1, t2, _⟩ := isD_at I1 d
  refine ⟨t1, t2, ?_⟩
  rw [m.trees]
  refine Calls.callWith_builtin rfl (Calls.evalArgs_plain (Calls.spliced_cons (thn (he pins s1 σ H1 _ I1 q1) fun iv s2 ⟨y, H2, I2, ry, q2⟩ =>
    Calls.spliced_cons (thn (hf pins s2 σ H2 _ I2 q2) fun fv s3 ⟨z, H3, I3, rz, ov, g, q3⟩ => Calls.spliced_nil ?_))))
  exact d_get2 hu I3 g ry rz fun w' s4 I4 rw' => ⟨_, H3, I4, rw', q3⟩
end

/-! ### dict(d): a copy -/
section
variable {X : Cx} {pins : List (Addr × Obj)} {σ : St} {H : Hp} {s : Shared} {a : Addr} {kvs : List (Key × V)} {A : Around} {E : Value → Shared → Prop}
end


section
variable {X : Cx} {pins : List (Addr × Obj)} {σ : St} {H : Hp} {s : Shared} {a : Addr} {y : V} {u : Value} {A : Around} {E : Value → Shared → Prop}
end
/-! ### a dict's pairs: keys that differ -/
section
variable {κ : Type} [DecidableEq κ]
theorem nd_snoc : ∀ {l : List κ} {k : κ}, l.Nodup → ¬ k ∈ l → (l ++ [k]).Nodup
  | [], k, _, _ => by simp
  | a :: r, k, h, hk => by
    obtain ⟨h1, h2⟩ := List.nodup_cons.mp h
    show (a :: (r ++ [k])).Nodup
    refine List.nodup_cons.mpr ⟨fun m => ?_, nd_snoc h2 fun m => hk (List.mem_cons.mpr (Or.inr m))⟩
    rcases List.mem_append.mp m with q | q
    · exact h1 q
    · exact hk (List.mem_cons.mpr (Or.inl (List.mem_singleton.mp q).symm))
end
end L2
end
section
/-! dicts in the closed forms: d[k], d[k] = v, d.get(k, x), sorted(d) -/
namespace L2
open PySem PySem.Spec PyProof.Rows
section
variable {prog : Program} {w : World} {A : Around} {E : Value → Shared → Prop} {s : Shared} {d : Addr} {kvs : List (Key × Value)}
theorem collect_src {T : String} {r d : Addr} {n : Nat} {P : Nat → Value → Prop} {OK : Heap → Prop} {R : List Value → Shared → Prop} (K : PySem.W.KdlSrc prog w T r d n P OK) (hh : A.handled = none) (hok : OK s.heap) (hn : n ≤ sizeLine)
    (h : ∀ (h' : Heap) (tk : Nat) (acc : Array Value), (∀ b o, s.heap.get? b = some o → h'.get? b = some o) → s.heap.objs.size < h'.objs.size → ItemsOf P acc n → R acc.toList { s with heap := h', toks := tk }) :
    wpAny (model prog w) A (collect (.ref r)) R E s := by
  have hlt := K.there _ hok
  unfold collect
  refine wpAny_bind (wpAny_runValue (codeAny_builtin entry_proto_collect' ?_))
  rw [Around.under_plainId PySem.F.plain_proto_collect _]
  show wpAny _ A.in1 (newList [] >>= fun l => again (.builtin "list.__iadd__" ⟨[l, .ref r], []⟩)) _ _ s
  refine wpAny_bind (wpAny_newObj_type ?_)
  refine wpAny_pure ⟨plainId_quiet PySem.F.plain_list_iadd _, codeAny_builtin entry_list_iadd' ?_⟩
  rw [Around.under_plainId PySem.F.plain_list_iadd _]
  have hS : (s.heap.push { cls := .type "list", data := .seq ([] : List Value).toArray }).get? s.heap.objs.size = some { cls := .type "list", data := .seq #[] } := Heap.get?_push_size _ rfl
  show wpAny _ A.in1 (Builtin.List.listExtendWith (.ref s.heap.objs.size) (.ref r) (.ref s.heap.objs.size)) _ _ _
  refine wpAny_mono (PySem.W.kdl_extend (A := A) (s := { s with heap := s.heap.push { cls := .type "list", data := .seq ([] : List Value).toArray } })
    (R := fun (q : Result) (s' : Shared) => ∃ (h' : Heap) (tk : Nat) (acc : Array Value) (c : Nat), q = .ok (.ret (.ref s.heap.objs.size)) ∧ s' = { s with heap := h', toks := tk } ∧
      (∀ b o, s.heap.get? b = some o → h'.get? b = some o) ∧ h'.get? s.heap.objs.size = some { cls := .type "list", dict := none, data := .seq acc c, slots := #[] } ∧ ItemsOf P acc n)
    K hh (K.keep _ _ hok fun b _ o e => Heap.get?_push_of_some _ e) s.heap.objs.size (Nat.ne_of_gt hlt.1) (Nat.ne_of_gt hlt.2) (.ref s.heap.objs.size) 0 hS
    (fun h' tk acc c hk hS' hacc => ⟨h', tk, acc, c, rfl, rfl, fun b o e => hk b o (Nat.ne_of_lt (Heap.lt_size e)) (Heap.get?_push_of_some _ e), hS', hacc⟩) hn) (fun fin s' x => ?_) fun e s' x => ?_
  · cases fin with
    | done f =>
      obtain ⟨h', tk, acc, c, e, rfl, hk, hS', hacc⟩ := x
      cases e
      show wpAny _ A (load s.heap.objs.size >>= _) _ _ _
      exact wpAny_bind (wpAny_load hS' (wpAny_pure (h h' tk acc hk (Heap.lt_size hS') hacc)))
    | again c1 =>
      refine ⟨x.1, codeAny_mono x.2 fun q s2 y => ?_⟩
      obtain ⟨h', tk, acc, c, rfl, rfl, hk, hS', hacc⟩ := y
      show wpAny _ A (load s.heap.objs.size >>= _) _ _ _
      exact wpAny_bind (wpAny_load hS' (wpAny_pure (h h' tk acc hk (Heap.lt_size hS') hacc)))
  · obtain ⟨_, _, _, _, e', _⟩ := x
    cases e'
theorem sorted_dict {Q : Value → Shared → Prop} {ks : List Int} (hh : A.handled = none) (lo : (d == sysModules) = false) (D : s.heap.DictOf (mixKind prog w) d kvs) (hk : kvs.map (·.1) = ks.map Sum.inl) (h64 : ks.length < 64)
    (h : ∀ (hf : Heap) (tk : Nat) (l : Addr) (vs : List Value) (ns : List Int) (e : Nat), s.heap.objs.size ≤ l → (∀ b u, s.heap.get? b = some u → hf.get? b = some u) →
      hf.get? l = some { cls := .type "list", data := .seq vs.toArray e } → IntsAre vs ns → ns.Perm ks → ns.Pairwise (· ≤ ·) → Q (.ref l) { s with heap := hf, toks := tk }) :
    wpAny (model prog w) A (call (.builtin "sorted") [.ref d]) Q E s := by
  obtain ⟨ep, hat⟩ := D.dictAt
  have hlen : kvs.length = ks.length := by
    have := congrArg List.length hk
    rwa [List.length_map, List.length_map] at this
  have hat0 : s.heap.DictAt (mixKind prog w) d kvs ep := hat
  refine Calls.call_function_entry kind_sorted plain_sorted entry_sorted (args_sorted1 _) ?_
  unfold Builtin.«sorted»
  refine wpAny_bind (m := checkCount "sorted" 1 1 _) (wpAny_pure ?_)
  refine wpAny_bind (collect_src (A := A.in1) (PySem.W.kdl_dict (knd := mixKind prog w) (kvs := kvs) (ep := ep) lo) hh hat0 (by rw [sizeLine_eq]; omega) fun h1 tk acc hk1 hlt1 hacc => ?_)
  have hI : IntsAre acc.toList ks := by
    have hsz : acc.toList.length = ks.length := by rw [Array.length_toList, hacc.1, hlen]
    have hat : ∀ (j : Nat) (v : Value), acc.toList[j]? = some v → ∃ i t, ks[j]? = some i ∧ v = Value.int i t := fun j v e => by
      obtain ⟨k, x, hx, hv⟩ := hacc.2 j v (by rw [← Array.getElem?_toList]; exact e)
      have e2 : (kvs.map (·.1))[j]? = some k := by rw [List.getElem?_map, hx]; rfl
      rw [hk, List.getElem?_map] at e2
      cases hq : ks[j]? with
      | none => rw [hq] at e2; cases e2
      | some i =>
        rw [hq] at e2
        cases e2
        rcases keyIs_shape (show keyIs (Sum.inl i) v = true from hv) with ⟨i', t, q1, q2⟩ | ⟨x, t, q1, q2⟩
        · cases q1
          exact ⟨i, t, rfl, q2⟩
        · cases q1
    generalize acc.toList = vs at hsz hat
    clear hk hlen hacc h
    induction vs generalizing ks with
    | nil =>
      cases ks with
      | nil => exact .nil
      | cons a r => cases hsz
    | cons v vs ih =>
      cases ks with
      | nil => cases hsz
      | cons a r =>
        obtain ⟨i, t, e1, rfl⟩ := hat 0 v rfl
        cases e1
        exact .cons _ t (ih (by rw [List.length_cons] at h64; omega) (by simpa using hsz) fun j v e => hat (j + 1) v e)
  have hl : acc.toList.length < 64 := by rw [Array.length_toList, hacc.1, hlen]; exact h64
  refine wpAny_bind (wpAny_newList ?_ (by rw [sizeLine_eq]; omega))
  have hL : (h1.push (seqObj "list" acc.toList.toArray 0)).get? h1.objs.size = some (seqObj "list" acc.toList.toArray 0) := Heap.get?_push_size _ rfl
  show wpAny _ _ _ _ _ { s with heap := h1.push (seqObj "list" acc.toList.toArray 0), toks := tk }
  refine wpAny_bind (wpAny_holding (wpAny_call_entry slot_list_sort ⟨_, hL, rfl⟩ entry_list_sort (list_sort_tree hL hI hl fun out ns' a1 a2 a3 => ⟨_, rfl, ?_⟩) (args_list_sort _)))
  obtain ⟨e, he⟩ := sortedHeap_at (out := out) hL
  have kept : ∀ b u, s.heap.get? b = some u → (sortedHeap (h1.push (seqObj "list" acc.toList.toArray 0)) h1.objs.size acc.toList out).get? b = some u := fun b u q => by
    have q1 := hk1 b u q
    have hb : b < h1.objs.size := Heap.lt_size q1
    rw [sortedHeap_old (Nat.ne_of_lt hb) (by rw [size_push']; exact Nat.lt_succ_of_lt hb)]
    exact Heap.get?_push_of_some _ q1
  generalize sortedHeap (h1.push (seqObj "list" acc.toList.toArray 0)) h1.objs.size acc.toList out = hf at he kept ⊢
  exact wpAny_pure ⟨_, rfl, h hf tk h1.objs.size out.toList ns' e (Nat.le_of_lt hlt1) kept (by rw [Array.toArray_toList]; exact he) a1 a2 a3⟩
end
section
variable {X : Cx} {o i e f value : Expr} {td ty tv tx : TE} {pos pos' apos cpos : Pos}
theorem call_sortedD (hc : X.calm = true) : CallR X (.builtin "sorted") (fun xs H Q => ∃ (p : Addr) (kvs : List (Key × V)) (ks : List Int), xs = [.ref p] ∧ H p = some (.dK kvs) ∧ kvs.map (·.1) = ks.map Sum.inl ∧ ks.length < 64 ∧
    ∀ (l : Addr) (ns : List Int), H l = none → ns.Pairwise (· ≤ ·) → ns.Perm ks → Q (.ref l) (upd H l (.lst (ns.map V.int)))) := by
  intro pins s σ H xs us Q I r h
  obtain ⟨p, kvs, ks, rfl, hp, hk, hn, q⟩ := h
  obtain ⟨u, rfl, rx⟩ := r.one
  cases rx
  obtain ⟨z, lo, vs, rel, dd⟩ := dk_of I.hok hp
  refine sorted_dict (I.ok.hd hc) lo dd (by rw [← rel.keys]; exact hk) hn fun hf tk l vs ns e hl kp he hi pm srt => ?_
  have hz : (ns.map V.int).length ≤ sizeLine := by
    rw [List.length_map, pm.length_eq, sizeLine_eq]
    omega
  have I2 : Inv X pins σ (upd H l (.lst (ns.map V.int))) { s with heap := hf, toks := tk } := I.laid (t' := tk) kp hl ⟨hz, vs, e, intsAre_vals hi, he⟩
  exact ⟨.ref l, _, I2, rfl, q l ns (I.hok.fresh hl) srt pm⟩
theorem je_dget (hu : X.A.units + 1 < cLine) (ho : JE X o td) (hi : JE X i ty) (hs : PlainIx i) : JE X (.Subscript o i pos) (tDGet td ty) := ⟨pe_dget hu ho.h hi.h hs⟩
theorem js_dput (hu : X.A.units + 1 < cLine) (ho : JE X o td) (hi : JE X i ty) (hv : JE X value tv) (hs : SwOk value (some (.Subscript o i pos'))) : JS X (.Assign [.Subscript o i pos'] value pos) (sDPut td ty tv) := ⟨ps_dput hu ho.h hi.h hv.h (hs.h _ _)⟩
theorem je_dget2 (hu : X.A.units + 1 < cLine) (ho : JE X o td) (he : JE X e ty) (hf : JE X f tx) (s1 : starEach [e, f] X.env = (false, eval e X.env) :: starEach [f] X.env) (s2 : starEach [f] X.env = (false, eval f X.env) :: starEach [] X.env)
    (base : attributeBase o "get" X.env (eval o X.env) = eval o X.env := by rfl)
    (few : ((backTo cpos (starEach [e, f] X.env)).all (fun x => !x.1) && (backToKw cpos (keywordEach [] X.env)).all (fun x => x.1.isSome)
      && decide (([e, f] : List Expr).length + ([] : List Keyword).length + (if ([] : List Keyword).isEmpty then 0 else 1) < 30)) = true := by rfl)
    (line : (apos.endLine == cpos.line) = true := by rfl) (trees : backTo cpos (starEach [e, f] X.env) = [(false, eval e X.env), (false, eval f X.env)] := by rfl) :
    JE X (.Call (.Attribute o "get" apos) [e, f] [] cpos) (tDGet2 td ty tx) := ⟨pe_dget2 hu ho.h he.h hf.h ⟨base, few, line, trees⟩⟩
end
end L2
end
section
namespace Eo
open PySem L2
def top (i : Nat) : Stmt := PySem.Challenge.pw_eachonce_k51_what_are_wholes.main.body.getD i (.Pass ⟨0, 0, 0, 0⟩)
abbrev sWhole0 : Stmt := top 1
abbrev sMusts : Stmt := top 3
abbrev sAre : Stmt := top 5
abbrev sCell : Stmt := top 7
abbrev sPot : Stmt := top 8
abbrev sTake : Stmt := top 9
abbrev sLot : Stmt := top 10
abbrev sPlanted : Stmt := top 11
abbrev sLMusts : Stmt := top 12
abbrev sWhole : Stmt := top 13
abbrev sRight : Stmt := top 14
abbrev sBent : Stmt := top 15
abbrev sLaw : Stmt := top 16
end Eo
end
section
namespace Eo
open PySem L2
/-- all but p is as it was -/
def Keep (H H' : Hp) (p : Addr) : Prop := ∀ b o, H b = some o → b ≠ p → H' b = some o
structure Txt (mg : Str → Option Value) : Prop where
  len : mg "len" = none
  range : mg "range" = none
  tuple : mg "tuple" = none
  sorted : mg "sorted" = none
  set : mg "set" = none
  list : mg "list" = none
  int : mg "int" = none
  isinstance : mg "isinstance" = none
  bool : mg "bool" = none
  str : mg "str" = none
  all : mg "all" = none
  zip : mg "zip" = none
  max : mg "max" = none
  min : mg "min" = none
  any : mg "any" = none
  abs : mg "abs" = none
  sum : mg "sum" = none
/-- a def that may be called by its name -/
structure Can (P : Program) (w : World) (K : PySem.W.Frag) (mg : Str → Option Value) (base : Heap) (x : Str) (k : Nat) (f : Addr) (fd : FuncData) (ps : List Str) (sp : Sp) : Prop where
  G : FnOk P w K mg base CX0 k f fd ps sp
  m : mg x = some (.ref f)
  kp : PySem.W.keepIn K (.ref f) = true
  b : Binds K fd ps []
theorem Can.pe {X : Cx} {x : Str} {k : Nat} {f : Addr} {fd : FuncData} {ps : List Str} {sp : Sp} {e : Expr} {es : List Expr} {t : TA} {p pos : Pos} (C : Can X.prog X.w X.K X.mg X.base x k f fd ps sp) (hr : Room k X.A) (hg : Gl X x) (ha : PA X (e :: es) t) (hdb : (x == ("__debug__" : Str)) = false := by decide)
    (he : starEach (e :: es) X.env = (false, eval e X.env) :: starEach es X.env := by rfl) (hpl : (backTo pos (starEach es X.env)).any (·.1) = false := by rfl) : PE X (.Call (.Name x p) (e :: es) [] pos) (tCall sp [] E0 t) :=
  pe_call C.G hr hg C.m C.kp C.b .nil pass0 ha hdb he hpl
theorem Can.je {X : Cx} {x : Str} {k : Nat} {f : Addr} {fd : FuncData} {ps : List Str} {sp : Sp} {e : Expr} {es : List Expr} {t : TA} {p pos : Pos} (C : Can X.prog X.w X.K X.mg X.base x k f fd ps sp) (hr : Room k X.A) (hg : Gl1 X x) (ha : JA X (e :: es) t) (he : starEach (e :: es) X.env = (false, eval e X.env) :: starEach es X.env)
    (hdb : (x == ("__debug__" : Str)) = false := by decide) (hpl : (backTo pos (starEach es X.env)).any (·.1) = false := by rfl) : JE X (.Call (.Name x p) (e :: es) [] pos) (tCall sp [] E0 t) :=
  ⟨C.pe hr hg.a ha.h hdb he hpl⟩
section
variable {P : Program} {w : World} {K : PySem.W.Frag} {mg : Str → Option Value} {base : Heap}

/-! _law_cell_at -/
def spCell (K : PySem.W.Frag) : Sp := fun vs H Q _ => ∃ (a : Addr) (ns : List Int) (k : Int), vs = [.ref a, .int k] ∧ SqL K H a (ns.map V.int) ∧ 0 ≤ k ∧ ∀ c : Int, Q (.int c) H
theorem scCell : FnScope ["script", "k"] ["script", "k"] (defScope sCell) := ⟨rfl, rfl, rfl, by decide +kernel, rfl, by decide +kernel, by decide +kernel⟩
theorem ok_cell {f : Addr} {fd : FuncData} (F : Fun K "_law_cell_at" "_law_cell_at" sCell f fd) (T : Txt mg) : FnOk P w K mg base CX0 1 f fd ["script", "k"] (spCell K) := by
  refine F.ok scCell (fun vs H Q E h => ?_) (fun cdv A outer s H vs Q E hr h => ?_)
  · obtain ⟨a, ns, k, rfl, _⟩ := h
    rfl
  · obtain ⟨a, ns, k, rfl, hS, h0, q⟩ := h
    refine ⟨_, pss_cons (ps_if (pt_cmpR op_lt (pv 1) (pe_callB call_len_seq (by rfl) T.len PySem.boot_len (pa_cons (pv 0) pa_nil)) (nomark _)) (pss_one (ps_ret (pe_ix ix_list (pv 0) (pv 1) (fun _ _ => rfl)))) pss_nil) (pss_one (ps_ret pe_int)), ?_⟩
    refine ⟨_, rfl, _, rfl, a, _, rfl, .inl hS, _, _, rfl, rfl, _, rfl, ?_⟩
    refine ite2 (fun hlt => ?_) (fun _ => ?_)
    · have hlt : k < ((ns.map V.int).length : Int) := of_decide_eq_true hlt
      have hk : k.toNat < ns.length := by rw [List.length_map] at hlt; omega
      refine ⟨_, rfl, _, rfl, a, _, k, .int (ns[k.toNat]), rfl, rfl, hS, ?_, q _⟩
      have e : (k.toNat : Int) = k := by omega
      have q2 := atI_nat (xs := ns.map V.int) (j := k.toNat) (v := V.int ns[k.toNat]) (by simp [hk])
      rw [e] at q2
      exact q2
    · exact q 0

/-! _law_take -/
def spTake : Sp := fun vs H Q _ => ∃ (p : Addr) (N w : Int), vs = [.ref p, .int w] ∧ H p = some (.lst [.int N]) ∧ 0 ≤ N ∧ 0 < w ∧ w < 2 ^ 64 ∧ ∀ N' r : Int, 0 ≤ N' → 0 ≤ r → r < w → Q (.int r) (upd H p (.lst [.int N']))
theorem scTake : FnScope ["pot", "wide", "found"] ["pot", "wide"] (defScope sTake) := ⟨rfl, rfl, rfl, by decide +kernel, rfl, by decide +kernel, by decide +kernel⟩
theorem ok_take {f : Addr} {fd : FuncData} (F : Fun K "_law_take" "_law_take" sTake f fd) : FnOk P w K mg base CX0 1 f fd ["pot", "wide"] spTake := by
  refine F.ok scTake (fun vs H Q E h => ?_) (fun cdv A outer s H vs Q E hr h => ?_)
  · obtain ⟨a, ns, k, rfl, _⟩ := h
    rfl
  · obtain ⟨p, N, w, rfl, hp, h0, h1, h2, q⟩ := h
    refine ⟨_, pss_cons (ps_set (i := 2) scTake.nd rfl (Or.inl rfl) (pe_op op_mod (pe_ix ix_list (pv 0) pe_int (fun _ _ => rfl)) (pv 1)))
      (pss_cons (ps_asg (pe_op op_fdivL (pe_ix ix_list (pv 0) pe_int (fun _ _ => rfl)) (pv 1)) (pg_sub (pv 0) pe_int set_list))
      (pss_one (ps_ret (pv 2)))), ?_⟩
    refine ⟨_, rfl, p, _, 0, .int N, rfl, rfl, SqL.of hp, rfl, _, rfl, _, _, rfl, rfl, h1, ?_⟩
    refine ⟨_, rfl, p, _, 0, .int N, rfl, rfl, SqL.of hp, rfl, _, rfl, _, _, rfl, rfl, ⟨h1, h2⟩, ?_⟩
    refine ⟨_, rfl, p, _, 0, 0, rfl, rfl, hp, rfl, _, rfl, ?_⟩
    exact q _ _ (Int.ediv_nonneg h0 (by omega)) (Int.emod_nonneg _ (by omega)) (Int.emod_lt_of_pos _ h1)

/-! _law_pot -/
def spPot : Sp := fun vs H Q _ => ∃ c : Int, vs = [.int c] ∧ ∀ (p : Addr) (N : Int), H p = none → 0 ≤ N → Q (.ref p) (upd H p (.lst [.int N]))
theorem scPot : FnScope ["cell", "number", "j", "more"] ["cell"] (defScope sPot) := ⟨rfl, rfl, rfl, by decide +kernel, rfl, by decide +kernel, by decide +kernel⟩
theorem ok_pot {f : Addr} {fd : FuncData} (F : Fun K "_law_pot" "_law_pot" sPot f fd) (T : Txt mg) : FnOk P w K mg base CX0 1 f fd ["cell"] spPot := by
  refine F.ok scPot (fun vs H Q E h => ?_) (fun cdv A outer s H vs Q E hr h => ?_)
  · obtain ⟨c, rfl, _⟩ := h
    rfl
  · obtain ⟨c, rfl, q⟩ := h
    have one : [V.int 0].length ≤ sizeLine := by show 1 ≤ sizeLine; decide
    refine ⟨_, pss_cons (ps_if (pt_cmpR op_ge (pv 0) (pe_op op_pow pe_int pe_int) (nomark _)) (pss_one (ps_ret (pe_lst (pa_cons (pe_op op_sub (pv 0) (pe_op op_pow pe_int pe_int)) pa_nil)))) pss_nil)
      (pss_cons (ps_set (i := 1) scPot.nd rfl (Or.inl rfl) pe_int)
      (pss_cons (ps_for PassesOwn.never rfl (pi_range1 rfl T.range (pa_cons pe_int pa_nil)) (pg_name (i := 2) scPot.nd rfl (Or.inl rfl))
        (pss_cons (ps_set (i := 3) scPot.nd rfl (Or.inl rfl) (pe_op op_mod (pe_op op_mul (pe_op op_add (pe_op op_add (pe_op op_mod (pv 0) pe_int) (pe_op op_mul pe_int (pv 2))) pe_int) pe_int) pe_int))
        (pss_cons (ps_set (i := 3) scPot.nd rfl (Or.inl rfl) (pe_op op_mod (pe_op op_add (pe_op op_add (pe_op op_mul (pv 3) (pv 3)) (pe_op op_mul pe_int (pv 2))) pe_int) pe_int))
        (pss_one (ps_set (i := 1) scPot.nd rfl (Or.inl rfl) (pe_op op_add (pe_op op_mul (pv 1) pe_int) (pv 3)))))))
      (pss_one (ps_ret (pe_lst (pa_cons (pv 1) pa_nil)))))), ?_⟩
    refine ⟨_, rfl, _, _, rfl, rfl, ⟨by decide, by decide, by decide⟩, _, _, rfl, rfl, _, rfl, ?_⟩
    refine ite2 (fun hge => ?_) (fun _ => ?_)
    · refine ⟨_, rfl, _, _, rfl, rfl, ⟨by decide, by decide, by decide⟩, _, _, rfl, rfl, one, fun p hp => q p _ hp ?_⟩
      exact Int.sub_nonneg_of_le (of_decide_eq_true hge)
    · refine ⟨64, rfl, by decide, by decide, for_range (n := 64) (fun i σ H2 => ∃ (num : Int) (v1 v2 : Option V), σ = [some (.int c), some (.int num), v1, v2] ∧ 0 ≤ num ∧ H2 = H) ⟨0, none, none, rfl, Int.le_refl _, rfl⟩ ?_ ?_⟩
      · rintro i σ H2 hi ⟨num, v1, v2, rfl, hn, rfl⟩
        refine ⟨_, rfl, _, _, rfl, rfl, (by show (0 : Int) < 2147483629; decide), _, rfl, _, _, rfl, rfl, .inl ⟨by decide, by decide⟩, _, _, rfl, rfl, _, _, rfl, rfl, _, _, rfl, rfl, .inr ⟨by decide, by decide⟩, _, _, rfl, rfl, (by show (0 : Int) < 2147483647; decide), ?_⟩
        refine ⟨_, rfl, _, rfl, _, _, rfl, rfl, .inl ⟨?_, ?_⟩, _, rfl, _, _, rfl, rfl, .inl ⟨by decide, by decide⟩, _, _, rfl, rfl, _, _, rfl, rfl, _, _, rfl, rfl, (by show (0 : Int) < 2147483587; decide), ?_⟩
        · omega
        · omega
        · refine ⟨_, rfl, _, _, rfl, rfl, .inr ⟨by decide, by decide⟩, _, rfl, _, _, rfl, rfl, ?_⟩
          refine ⟨_, _, _, rfl, ?_, rfl⟩
          omega
      · rintro σ H2 ⟨num, v1, v2, rfl, hn, rfl⟩
        exact ⟨_, rfl, one, fun p hp => q p num hp hn⟩
end
end Eo
end
section
namespace Eo
open PySem L2
theorem upd_upd {H : Hp} {a : Addr} {o o' : HO} : upd (upd H a o) a o' = upd H a o' := by
  funext b
  unfold upd
  by_cases h : b = a
  · rw [if_pos h, if_pos h]
  · rw [if_neg h, if_neg h, if_neg h]
theorem upd_none {H : Hp} {a b : Addr} {o : HO} (h : upd H a o b = none) : b ≠ a ∧ H b = none := by
  have h1 : b ≠ a := fun e => by rw [e, upd_same] at h; cases h
  exact ⟨h1, by rw [upd_ne h1] at h; exact h⟩
theorem Keep.refl (H : Hp) (p : Addr) : Keep H H p := fun _ _ h _ => h
theorem Keep.trans {H H1 H2 : Hp} {p : Addr} (a : Keep H H1 p) (b : Keep H1 H2 p) : Keep H H2 p := fun c o h n => b c o (a c o h n) n
theorem Keep.upd {H H1 : Hp} {p : Addr} (a : Keep H H1 p) (o : HO) : Keep H (upd H1 p o) p := fun c u h n => by rw [upd_ne n]; exact a c u h n
theorem Keep.new {H H1 : Hp} {p l : Addr} (a : Keep H H1 p) (hl : H1 l = none) (o : HO) : Keep H (L2.upd H1 l o) p := fun c u h n => by
  have := a c u h n
  rw [upd_ne (ne_of_none this hl)]
  exact this
theorem pw {w : Int} (h1 : 1 ≤ w) (h2 : w ≤ 16) : (2 : Int) ≤ 2 ^ w.toNat ∧ (2 : Int) ^ w.toNat ≤ 65536 := by
  have e : ∀ n : Nat, n < 17 → 1 ≤ n → (2 : Int) ≤ 2 ^ n ∧ (2 : Int) ^ n ≤ 65536 := by decide +kernel
  exact e w.toNat (by omega) (by omega)
/-- a lot of one thing or more, of w things -/
structure Lot (w : Int) (ts : List Int) : Prop where
  ris : ts.Pairwise (· < ·)
  bnd : ∀ z ∈ ts, 0 ≤ z ∧ z < w
  ne : ts ≠ []
/-- the things of a number's digits -/
def bits (n : Int) (k : Nat) : List Int := ((List.range k).filter fun t => decide (Builtin.bitAnd (n / 2 ^ t) 1 = 1)).map fun (t : Nat) => (t : Int)
theorem bits_succ (n : Int) (k : Nat) : bits n (k + 1) = bits n k ++ (if decide (Builtin.bitAnd (n / 2 ^ k) 1 = 1) = true then [(k : Int)] else []) := by
  unfold bits
  rw [List.range_succ, List.filter_append, List.map_append]
  congr 1
  rw [List.filter_cons]
  split <;> rfl
theorem bits_lot {n w : Int} (h1 : 1 ≤ n) (hw : 0 ≤ w) (h2 : n < 2 ^ w.toNat) : Lot w (bits n w.toNat) := by
  refine ⟨?_, fun z hz => ?_, ?_⟩
  · unfold bits
    rw [List.pairwise_map]
    have := (List.pairwise_lt_range (n := w.toNat)).filter (fun t => decide (Builtin.bitAnd (n / 2 ^ t) 1 = 1))
    exact this.imp fun h => by omega
  · unfold bits at hz
    obtain ⟨t, ht, rfl⟩ := List.mem_map.mp hz
    have := List.mem_range.mp (List.mem_filter.mp ht).1
    omega
  · obtain ⟨m, rfl⟩ : ∃ m : Nat, n = (m : Int) := ⟨n.toNat, by omega⟩
    have hm : m ≠ 0 := by omega
    have hlt : m < 2 ^ w.toNat := by
      have : ((m : Nat) : Int) < ((2 ^ w.toNat : Nat) : Int) := by rw [Int.natCast_pow]; exact h2
      omega
    obtain ⟨i, hi⟩ := Nat.exists_testBit_of_ne_zero hm
    have hiw : i < w.toNat := by
      rcases Nat.lt_or_ge i w.toNat with h | h
      · exact h
      · rw [Nat.testBit_lt_two_pow (Nat.lt_of_lt_of_le hlt (Nat.pow_le_pow_right (by omega) h))] at hi
        cases hi
    have hb : Builtin.bitAnd ((m : Int) / 2 ^ i) 1 = 1 := by
      have e : ((m : Int) / 2 ^ i) = ((m / 2 ^ i : Nat) : Int) := by rw [Int.natCast_ediv, Int.natCast_pow]; rfl
      rw [e, PyProof.Rows.bitAnd_pp (Int.natCast_nonneg _) (by decide)]
      have e2 : (((m / 2 ^ i : Nat) : Int).toNat &&& (1 : Int).toNat) = 1 := by
        rw [Int.toNat_natCast]
        show (m / 2 ^ i) &&& 1 = 1
        rw [Nat.and_one_is_mod]
        have := hi
        rw [Nat.testBit_eq_decide_div_mod_eq] at this
        exact of_decide_eq_true this
      rw [e2]
      rfl
    intro z
    have hmem : (i : Int) ∈ bits (m : Int) w.toNat := by
      unfold bits
      exact List.mem_map.mpr ⟨i, List.mem_filter.mpr ⟨List.mem_range.mpr hiw, decide_eq_true hb⟩, rfl⟩
    rw [z] at hmem
    cases hmem
section
variable {P : Program} {w : World} {K : PySem.W.Frag} {mg : Str → Option Value} {base : Heap}
/-! _law_lot -/
def spLot : Sp := fun vs H Q _ => ∃ (p : Addr) (N w : Int), vs = [.ref p, .int w] ∧ H p = some (.lst [.int N]) ∧ 0 ≤ N ∧ 1 ≤ w ∧ w ≤ 16 ∧
  ∀ (q : Addr) (N' : Int) (ts : List Int) (H' : Hp), 0 ≤ N' → Lot w ts → H' q = some (.tup (ts.map V.int)) → H' p = some (.lst [.int N']) → Keep H H' p → Q (.ref q) H'
theorem scLot : FnScope ["pot", "wide", "way", "number", "start", "step", "size"] ["pot", "wide"] (defScope sLot) := ⟨rfl, rfl, rfl, by decide +kernel, rfl, by decide +kernel, by decide +kernel⟩
theorem ok_lot {f fT : Addr} {fd fdT : FuncData} (F : Fun K "_law_lot" "_law_lot" sLot f fd) (T : Txt mg) (CT : Can P w K mg base "_law_take" 1 fT fdT ["pot", "wide"] spTake) : FnOk P w K mg base CX0 2 f fd ["pot", "wide"] spLot := by
  refine F.ok scLot (fun vs H Q E h => ?_) (fun cdv A outer s H vs Q E hr h => ?_)
  · obtain ⟨a, ns, k, rfl, _⟩ := h
    rfl
  · obtain ⟨p, N, w, rfl, hp, hN, h1, h2, q⟩ := h
    have hpw := pw h1 h2
    have nd := scLot.nd
    refine ⟨_, pss_cons (ps_set (i := 2) nd rfl (Or.inl rfl) (CT.pe hr rfl (pa_cons (pv 0) (pa_cons pe_int pa_nil))))
      (pss_cons (ps_if (pt_cmpR op_eq (pv 2) pe_int (nomark _))
        (pss_cons (ps_set (i := 3) nd rfl (Or.inr rfl) (pe_op op_add pe_int (CT.pe hr rfl (pa_cons (pv 0) (pa_cons (pe_op op_sub (pe_op op_shl pe_int (pv 1)) pe_int) pa_nil)))))
        (pss_one (ps_ret (pe_callTy call_tuple_of rfl T.tuple (by decide +kernel) (pa_cons
          (pe_comp (m := [none, some 3]) (Nc := ["t", "number"]) rfl (pi_range1 rfl T.range (pa_cons (pv 1) pa_nil)) rfl (by decide +kernel) (by decide +kernel) (free_ok (psc := defScope sLot) (by decide +kernel))
            (freeAt_ok (N := ["pot", "wide", "way", "number", "start", "step", "size"]) rfl rfl (by decide +kernel))
            (fun cl C fp s H => pg_name (i := 0) (show (["t", "number"] : List Str).Nodup by decide +kernel) rfl (Or.inl rfl))
            (fun cl C fp s H => pts_one (pt_cmpR op_eq (pe_op op_and (pe_op op_shr (pv 1) (pv 0)) pe_int) pe_int (nomark _)))
            (fun cl C fp s H => pv 0)) pa_nil)))))
        pss_nil)
      (pss_cons (ps_set (i := 4) nd rfl (Or.inr rfl) (CT.pe hr rfl (pa_cons (pv 0) (pa_cons (pv 1) pa_nil))))
      (pss_cons (ps_set (i := 5) nd rfl (Or.inr rfl) (pe_op op_add pe_int (CT.pe hr rfl (pa_cons (pv 0) (pa_cons pe_int pa_nil)))))
      (pss_cons (ps_set (i := 6) nd rfl (Or.inl rfl) (pe_op op_add pe_int (CT.pe hr rfl (pa_cons (pv 0) (pa_cons (pe_ix ix_list (pe_lst (pa_cons pe_int (pa_cons pe_int (pa_cons pe_int pa_nil)))) (pe_op op_sub (pv 2) pe_int) (fun _ _ => rfl)) pa_nil)))))
      (pss_one (ps_ret (pe_callTy call_tuple_of rfl T.tuple (by decide +kernel) (pa_cons (pe_callB (call_sortedSet rfl) rfl T.sorted (by decide +kernel) (pa_cons (pe_callTy (call_set4 rfl) rfl T.set (by decide +kernel) (pa_cons
          (pe_comp (m := [none, some 4, some 5, some 1]) (Nc := ["j", "start", "step", "wide"]) rfl (pi_range1 rfl T.range (pa_cons (pv 6) pa_nil)) rfl (by decide +kernel) (by decide +kernel) (free_ok (psc := defScope sLot) (by decide +kernel))
            (freeAt_ok (N := ["pot", "wide", "way", "number", "start", "step", "size"]) rfl rfl (by decide +kernel))
            (fun cl C fp s H => pg_name (i := 0) (show (["j", "start", "step", "wide"] : List Str).Nodup by decide +kernel) rfl (Or.inl rfl))
            (fun cl C fp s H => pts_nil)
            (fun cl C fp s H => pe_op op_mod (pe_op op_add (pv 1) (pe_op op_mul (pv 2) (pv 0))) (pv 3))) pa_nil)) pa_nil)) pa_nil)))))))), ?_⟩
    -- way
    refine ⟨_, rfl, p, N, 4, rfl, hp, hN, by decide, by decide, fun N1 way b1 b2 b3 => ?_⟩
    have hp1 : ∀ M, (upd H p (.lst [.int M])) p = some (.lst [.int M]) := fun _ => upd_same
    refine ⟨_, rfl, rfl, _, rfl, ?_⟩
    refine ite2 (fun _ => ?_) (fun hw0 => ?_)
    · refine ⟨_, rfl, _, rfl, _, _, rfl, rfl, ⟨by omega, by omega, by decide⟩, _, _, rfl, rfl, p, N1, _, rfl, hp1 _, b1, by omega, by omega, fun N2 r2 c1 c2 c3 => ⟨_, _, rfl, rfl, ?_⟩⟩
      have hnum : 1 + r2 < 2 ^ w.toNat := by omega
      refine ⟨_, rfl, w, rfl, by omega, by omega, comp_rng (n := w.toNat) (by rw [PySem.sizeLine_eq]; omega) (fun D i σ' H' ys => (∃ v, σ' = [v, some (.int (1 + r2))]) ∧ ys = (bits (1 + r2) i).map V.int ∧ H' = upd (upd (upd H p (.lst [.int N1])) p (.lst [.int N2])) D (.lst ys)) ?_ ?_ ?_ ?_⟩
      · intro D hD
        exact ⟨⟨_, rfl⟩, rfl, rfl⟩
      · rintro D i σ' H' ys hD hi ⟨_, e1, e2⟩
        refine ⟨by rw [e2]; exact upd_same, ?_⟩
        rw [e1, List.length_map]
        unfold bits
        rw [List.length_map]
        exact Nat.le_trans (List.length_filter_le _ _) (by rw [List.length_range]; exact Nat.le_refl _)
      · rintro D i σ' H' ys hD hi ⟨⟨v, rfl⟩, rfl, rfl⟩
        refine ⟨_, rfl, _, rfl, _, _, rfl, rfl, (by show (0 : Int) ≤ 0 + (i : Int); omega), _, _, rfl, rfl, rfl, _, rfl, ?_⟩
        have ei : (0 + (i : Int)).toNat = i := by omega
        refine ite2 (fun hb => ?_) (fun hb => ?_)
        · have hb : Builtin.bitAnd ((1 + r2) / 2 ^ i) 1 = 1 := by
            have := of_decide_eq_true hb
            rw [ei] at this
            exact V.int.inj this
          refine ⟨_, rfl, upd_same, ⟨_, rfl⟩, ?_, upd_upd⟩
          rw [bits_succ, if_pos (decide_eq_true hb), List.map_append]
          congr 1
          show [V.int (0 + (i : Int))] = [V.int (i : Int)]
          rw [Int.zero_add]
        · have hb : ¬ Builtin.bitAnd ((1 + r2) / 2 ^ i) 1 = 1 := fun e => hb (decide_eq_true (by rw [ei]; exact congrArg V.int e))
          refine ⟨⟨_, rfl⟩, ?_, rfl⟩
          rw [bits_succ, if_neg (by simpa using hb), List.append_nil]
      · rintro D σ' H' ys hD ⟨_, rfl, rfl⟩
        refine ⟨D, _, rfl, .inl ⟨SqL.of upd_same, fun qq hqq => ?_⟩⟩
        obtain ⟨n1, n2⟩ := upd_none hqq
        have pD : p ≠ D := ne_of_none upd_same hD
        have pq : p ≠ qq := ne_of_none upd_same n2
        exact q qq N2 (bits (1 + r2) w.toNat) _ c1 (bits_lot (by omega) (by omega) hnum) upd_same (by rw [upd_ne pq, upd_ne pD, upd_same]) (((((Keep.refl H p).upd _).upd _).new hD _).new hqq _)
    · have hway : 1 ≤ way := by
        have : ¬ way = 0 := fun e => hw0 (decide_eq_true (by rw [e]))
        omega
      -- start
      refine ⟨_, rfl, _, rfl, p, N1, w, rfl, hp1 _, b1, by omega, by omega, fun N2 start c1 c2 c3 => ?_⟩
      rw [upd_upd]
      -- step
      refine ⟨_, rfl, p, N2, 3, rfl, hp1 _, c1, by decide, by decide, fun N3 st d1 d2 d3 => ⟨_, _, rfl, rfl, ?_⟩⟩
      rw [upd_upd]
      -- size
      refine ⟨_, rfl, (by show 3 ≤ sizeLine; decide), fun l hl => ?_⟩
      have pl : p ≠ l := ne_of_none (hp1 _) hl
      obtain ⟨wd, hwd, e1, e2⟩ : ∃ wd : Int, atI [V.int 1, V.int 2, V.int 4] (way - 1) = some (.int wd) ∧ 1 ≤ wd ∧ wd ≤ 4 := by
        rcases (show way = 1 ∨ way = 2 ∨ way = 3 by omega) with e | e | e
        · subst e; exact ⟨1, rfl, by decide, by decide⟩
        · subst e; exact ⟨2, rfl, by decide, by decide⟩
        · subst e; exact ⟨4, rfl, by decide, by decide⟩
      refine ⟨_, rfl, _, _, rfl, rfl, l, _, _, _, rfl, rfl, SqL.of upd_same, hwd, p, N3, wd, rfl, by rw [upd_ne pl]; exact hp1 _, d1, by omega, by omega, fun N4 r4 g1 g2 g3 => ⟨_, _, rfl, rfl, ?_⟩⟩
      have kp : Keep H (upd (upd (upd H p (.lst [.int N3])) l (.lst [V.int 1, V.int 2, V.int 4])) p (.lst [.int N4])) p := (((Keep.refl H p).upd _).new hl _).upd _
      have hp4 : (upd (upd (upd H p (.lst [.int N3])) l (.lst [V.int 1, V.int 2, V.int 4])) p (.lst [.int N4])) p = some (.lst [.int N4]) := upd_same
      generalize (upd (upd (upd H p (.lst [.int N3])) l (.lst [V.int 1, V.int 2, V.int 4])) p (.lst [.int N4])) = H4 at kp hp4 ⊢
      refine ⟨_, rfl, 1 + r4, rfl, by omega, by omega, comp_rng (n := (1 + r4).toNat) (by rw [PySem.sizeLine_eq]; omega) (fun D i σ' H' ys => (∃ v, σ' = [v, some (.int start), some (.int (1 + st)), some (.int w)]) ∧ (∃ ns : List Int, ys = ns.map V.int ∧ ns.length = i ∧ ∀ z ∈ ns, 0 ≤ z ∧ z < w) ∧ H' = upd H4 D (.lst ys)) ?_ ?_ ?_ ?_⟩
      · intro D hD
        exact ⟨⟨_, rfl⟩, ⟨[], rfl, rfl, fun z hz => by cases hz⟩, rfl⟩
      · rintro D i σ' H' ys hD hi ⟨_, ⟨ns, rfl, e, _⟩, rfl⟩
        exact ⟨upd_same, by rw [List.length_map, e]; exact Nat.le_refl _⟩
      · rintro D i σ' H' ys hD hi ⟨⟨v, rfl⟩, ⟨ns, rfl, e, hb⟩, rfl⟩
        dsimp only [gName, tTrue]
        rw [if_pos rfl]
        refine ⟨_, rfl, _, rfl, _, rfl, _, _, rfl, rfl, .inl ⟨by omega, by omega⟩, _, _, rfl, rfl, _, rfl, _, _, rfl, rfl, (by show 0 < w; omega), upd_same, ⟨_, rfl⟩, ⟨ns ++ [(start + (1 + st) * (0 + (i : Int))) % w], by simp, by simp [e], fun z hz => ?_⟩, upd_upd⟩
        rcases List.mem_append.mp hz with hz | hz
        · exact hb z hz
        · have : z = (start + (1 + st) * (0 + (i : Int))) % w := by simpa using hz
          rw [this]
          exact ⟨Int.emod_nonneg _ (by omega), Int.emod_lt_of_pos _ (by omega)⟩
      · rintro D σ' H' ys hD ⟨_, ⟨ns, rfl, e, hb⟩, rfl⟩
        refine ⟨D, ns, rfl, SqL.of upd_same, by omega, fun z hz => ⟨(hb z hz).1, by have := (hb z hz).2; omega⟩, fun l1 ks h11 hm1 => ?_⟩
        refine ⟨l1, ks, rfl, upd_same, fun l2 ms h12 srt hm2 => ?_⟩
        refine ⟨l2, _, rfl, .inl ⟨SqL.of upd_same, fun qq hqq => ?_⟩⟩
        have pD : p ≠ D := ne_of_none hp4 hD
        have p1 : p ≠ l1 := ne_of_none hp4 (upd_none h11).2
        have p2 : p ≠ l2 := ne_of_none hp4 (upd_none (upd_none h12).2).2
        have pq : p ≠ qq := ne_of_none hp4 (upd_none (upd_none (upd_none hqq).2).2).2
        refine q qq N4 ms _ g1 ⟨srt, fun z hz => hb z ((hm1 z).mp ((hm2 z).mp hz)), fun z => ?_⟩ upd_same (by rw [upd_ne pq, upd_ne p2, upd_ne p1, upd_ne pD]; exact hp4) ((((kp.new hD _).new h11 _).new h12 _).new hqq _)
        subst z
        cases ns with
        | nil => simp at e; omega
        | cons x r =>
          have := (hm2 x).mpr ((hm1 x).mpr List.mem_cons_self)
          cases this
end
end Eo
end
section
namespace Eo
open PySem L2
/-! rising lists -/
structure Ris (w : Int) (ts : List Int) : Prop where
  ris : ts.Pairwise (· < ·)
  bnd : ∀ z ∈ ts, 0 ≤ z ∧ z < w
theorem Ris.nil (w : Int) : Ris w [] := ⟨.nil, fun z hz => by cases hz⟩
/-! boxes on the heap -/
def Tups (H H' : Hp) : Prop := ∀ b xs, H b = some (.tup xs) → H' b = some (.tup xs)
theorem Keep.tups {H H' : Hp} {p : Addr} {xs : List V} (k : Keep H H' p) (hp : H p = some (.lst xs)) : Tups H H' := fun b ys hb => k b _ hb fun e => by
  subst e
  rw [hb] at hp
  cases hp
def PcAt (H : Hp) (v : V) (pc : List Int × Int) : Prop := ∃ a q, v = .ref a ∧ H a = some (.tup [.ref q, .int pc.2]) ∧ H q = some (.tup (pc.1.map V.int))
def PcsAt (H : Hp) : List V → List (List Int × Int) → Prop
  | [], [] => True
  | v :: vs, p :: ps => PcAt H v p ∧ PcsAt H vs ps
  | _, _ => False
theorem PcAt.mono {H H' : Hp} {v : V} {pc : List Int × Int} (h : PcAt H v pc) (t : Tups H H') : PcAt H' v pc := by
  obtain ⟨a, q, rfl, h1, h2⟩ := h
  exact ⟨a, q, rfl, t _ _ h1, t _ _ h2⟩
theorem PcsAt.mono {H H' : Hp} (t : Tups H H') : ∀ {vs : List V} {ps : List (List Int × Int)}, PcsAt H vs ps → PcsAt H' vs ps
  | [], [], _ => trivial
  | _ :: _, _ :: _, h => ⟨h.1.mono t, PcsAt.mono t h.2⟩
  | [], _ :: _, h => h.elim
  | _ :: _, [], h => h.elim
theorem PcsAt.len {H : Hp} : ∀ {vs : List V} {ps : List (List Int × Int)}, PcsAt H vs ps → vs.length = ps.length
  | [], [], _ => rfl
  | _ :: _, _ :: _, h => congrArg (· + 1) (PcsAt.len h.2)
  | [], _ :: _, h => h.elim
  | _ :: _, [], h => h.elim
structure GoodPc (w : Int) (pc : List Int × Int) : Prop where
  lot : Lot w pc.1
  lo : -1000000000000 ≤ pc.2
  hi : pc.2 ≤ 1000000000000
structure BoxAt (H : Hp) (b : Addr) (w : Int) (mays : List Int) (pcs : List (List Int × Int)) : Prop where
  ex : ∃ qm qp vs, H b = some (.tup [.int w, .ref qm, .ref qp]) ∧ H qm = some (.tup (mays.map V.int)) ∧ H qp = some (.tup vs) ∧ PcsAt H vs pcs
theorem BoxAt.mono {H H' : Hp} {b : Addr} {w : Int} {mays : List Int} {pcs : List (List Int × Int)} (h : BoxAt H b w mays pcs) (t : Tups H H') : BoxAt H' b w mays pcs := by
  obtain ⟨qm, qp, vs, h1, h2, h3, h4⟩ := h.ex
  exact ⟨qm, qp, vs, t _ _ h1, t _ _ h2, t _ _ h3, h4.mono t⟩
structure Good (mt mp : Int) (w : Int) (mays : List Int) (pcs : List (List Int × Int)) : Prop where
  w0 : 0 ≤ w
  w1 : w ≤ mt
  mr : Ris w mays
  pl : (pcs.length : Int) ≤ mp
  pg : ∀ pc ∈ pcs, GoodPc w pc
def loopOf : Stmt → List Stmt
  | .For _ _ b _ _ => b
  | _ => []
end Eo
end
section
namespace Eo
open PySem L2
/-! what a value is, as far as it is looked at: a whole number, a tuple, or anything else -/
inductive Ob where
  | int (i : Int)
  | oth
  | tup (os : List Ob)
def OthAt (H : Hp) (v : V) : Prop := v = .non ∨ (∃ b, v = .bl b) ∨ (∃ x, v = .str x) ∨ ∃ a, v = .ref a ∧ ((∃ xs, H a = some (.lst xs)) ∨ ∃ kvs, H a = some (.dK kvs))
mutual
def At (H : Hp) : Ob → V → Prop
  | .int i, v => v = .int i
  | .oth, v => OthAt H v
  | .tup os, v => ∃ a vs, v = .ref a ∧ H a = some (.tup vs) ∧ vs.length ≤ 100 ∧ Ats H os vs
def Ats (H : Hp) : List Ob → List V → Prop
  | [], vs => vs = []
  | o :: os, vs => ∃ v r, vs = v :: r ∧ At H o v ∧ Ats H os r
end
/-- tuples are as they were, lists are lists, dicts dicts -/
structure Kp (H H' : Hp) : Prop where
  t : Tups H H'
  l : ∀ a xs, H a = some (.lst xs) → ∃ ys, H' a = some (.lst ys)
  d : ∀ a xs, H a = some (.dK xs) → ∃ ys, H' a = some (.dK ys)
theorem Kp.of {H H' : Hp} (e : Ext H H') : Kp H H' := ⟨fun b xs h => e b _ h, fun a xs h => ⟨xs, e a _ h⟩, fun a xs h => ⟨xs, e a _ h⟩⟩
theorem Kp.keep {H H' : Hp} {p : Addr} {xs ys : List V} (k : Keep H H' p) (hp : H p = some (.lst xs)) (hp' : H' p = some (.lst ys)) : Kp H H' := by
  refine ⟨k.tups hp, fun a zs h => ?_, fun a zs h => ⟨zs, k a _ h (ne_of h hp (by intro z; cases z))⟩⟩
  by_cases e : a = p
  · subst e
    exact ⟨ys, hp'⟩
  · exact ⟨zs, k a _ h e⟩
theorem OthAt.mono {H H' : Hp} (k : Kp H H') {v : V} (h : OthAt H v) : OthAt H' v := by
  rcases h with h | h | h | ⟨a, rfl, ⟨xs, h⟩ | ⟨xs, h⟩⟩
  · exact .inl h
  · exact .inr (.inl h)
  · exact .inr (.inr (.inl h))
  · exact .inr (.inr (.inr ⟨a, rfl, .inl (k.l _ _ h)⟩))
  · exact .inr (.inr (.inr ⟨a, rfl, .inr (k.d _ _ h)⟩))
mutual
theorem At.mono {H H' : Hp} (k : Kp H H') : ∀ (o : Ob) (v : V), At H o v → At H' o v
  | .int _, _, h => h
  | .oth, _, h => OthAt.mono k h
  | .tup os, _, ⟨a, vs, e, h, n, r⟩ => ⟨a, vs, e, k.t _ _ h, n, Ats.mono k os vs r⟩
theorem Ats.mono {H H' : Hp} (k : Kp H H') : ∀ (os : List Ob) (vs : List V), Ats H os vs → Ats H' os vs
  | [], _, h => h
  | o :: os, _, ⟨v, r, e, h, t⟩ => ⟨v, r, e, At.mono k o v h, Ats.mono k os r t⟩
end
theorem At.ext {H H' : Hp} (e : Ext H H') {o : Ob} {v : V} (h : At H o v) : At H' o v := At.mono (.of e) o v h
theorem Ats.len {H : Hp} : ∀ {os : List Ob} {vs : List V}, Ats H os vs → vs.length = os.length
  | [], _, h => by cases (show _ = [] from h); rfl
  | o :: os, _, ⟨v, r, e, h, t⟩ => by rw [e, List.length_cons, List.length_cons, Ats.len t]
theorem Ats.get {H : Hp} : ∀ {os : List Ob} {vs : List V}, Ats H os vs → ∀ {i : Nat} {v : V}, vs[i]? = some v → ∃ o, os[i]? = some o ∧ At H o v
  | [], _, h, i, v, e => by cases (show _ = [] from h); cases e
  | o :: os, _, ⟨v, r, e, h, t⟩, 0, v', e' => by subst e; cases e'; exact ⟨o, rfl, h⟩
  | o :: os, _, ⟨v, r, e, h, t⟩, i + 1, v', e' => by subst e; exact Ats.get t (i := i) e'
theorem Ats.append {H : Hp} : ∀ {os : List Ob} {vs : List V} {os2 : List Ob} {vs2 : List V}, Ats H os vs → Ats H os2 vs2 → Ats H (os ++ os2) (vs ++ vs2)
  | [], _, _, _, h, h2 => by cases (show _ = [] from h); exact h2
  | o :: os, _, _, _, ⟨v, r, e, h, t⟩, h2 => by subst e; exact ⟨v, _, rfl, h, Ats.append t h2⟩
theorem Ats.take {H : Hp} : ∀ {os : List Ob} {vs : List V} (k : Nat), Ats H os vs → Ats H (os.take k) (vs.take k)
  | [], _, k, h => by cases (show _ = [] from h); cases k <;> rfl
  | o :: os, _, 0, _ => rfl
  | o :: os, _, k + 1, ⟨v, r, e, h, t⟩ => by subst e; exact ⟨v, _, rfl, h, Ats.take k t⟩
theorem Ats.drop {H : Hp} : ∀ {os : List Ob} {vs : List V} (k : Nat), Ats H os vs → Ats H (os.drop k) (vs.drop k)
  | [], _, k, h => by cases (show _ = [] from h); cases k <;> rfl
  | o :: os, _, 0, h => h
  | o :: os, _, k + 1, ⟨v, r, e, h, t⟩ => by subst e; exact Ats.drop k t
theorem Ats.ints {H : Hp} : ∀ (l : List Int), Ats H (l.map Ob.int) (l.map V.int)
  | [] => rfl
  | i :: r => ⟨.int i, _, rfl, rfl, Ats.ints r⟩
/-! the looks -/
def isInt : Ob → Bool
  | .int _ => true
  | _ => false
def isTup : Ob → Bool
  | .tup _ => true
  | _ => false
end Eo
end
section
namespace Eo
open PySem L2
theorem At.ty (K : PySem.W.Frag) {H : Hp} {o : Ob} {v : V} (h : At H o v) : ∃ t, TyOf K H v t ∧ PySem.W.kitOne K t (.type "tuple") = some (isTup o) ∧ ∃ b1 b2, PySem.W.kitOne K t (.type "int") = some b1 ∧ PySem.W.kitOne K t (.type "bool") = some b2 ∧ (b1 && !b2) = isInt o := by
  cases o with
  | int i =>
    cases (show v = .int i from h)
    exact ⟨_, .int i, rfl, true, false, rfl, rfl, rfl⟩
  | oth =>
    rcases (show OthAt H v from h) with rfl | ⟨b, rfl⟩ | ⟨x, rfl⟩ | ⟨a, rfl, ⟨xs, e⟩ | ⟨xs, e⟩⟩
    · exact ⟨_, .non, rfl, false, false, rfl, rfl, rfl⟩
    · exact ⟨_, .bl b, rfl, true, true, rfl, rfl, rfl⟩
    · exact ⟨_, .str x, rfl, false, false, rfl, rfl, rfl⟩
    · exact ⟨_, .lst e, rfl, false, false, rfl, rfl, rfl⟩
    · exact ⟨_, .dK e, rfl, false, false, rfl, rfl, rfl⟩
  | tup os =>
    obtain ⟨a, vs, rfl, e, _⟩ := h
    exact ⟨_, .tup e, rfl, false, false, rfl, rfl, rfl⟩
theorem At.tupOf {H : Hp} {o : Ob} {v : V} (h : At H o v) (t : isTup o = true) : ∃ os a vs, o = .tup os ∧ v = .ref a ∧ H a = some (.tup vs) ∧ vs.length ≤ 100 ∧ Ats H os vs := by
  cases o with
  | int i => cases t
  | oth => cases t
  | tup os =>
    obtain ⟨a, vs, e1, e2, e4, e3⟩ := h
    exact ⟨os, a, vs, rfl, e1, e2, e4, e3⟩
theorem comp_tupB {K : PySem.W.Frag} {m : List (Option Nat)} {g : TG} {tt : TT} {te : TE} {σ : St} {H1 : Hp} {Q : VK} {a : Addr} {xs : List V} {os : List Ob} {F : Ob → Bool} (ha : H1 a = some (.tup xs)) (hx : Ats H1 os xs) (hn : xs.length < sizeLine) (σP : St → Prop) (h0 : σP (blkσ m σ))
    (step : ∀ (σ' : St) (H' : Hp) (v : V) (o : Ob) (R : St → V → Hp → Prop) (S : St → Hp → Prop), σP σ' → Ext H1 H' → At H' o v → (∀ σ2 H'', σP σ2 → Ext H' H'' → R σ2 (.bl (F o)) H'') → g v σ' H' fun σ2 H2 => tt σ2 H2 fun b H3 => if b = true then te σ2 H3 (R σ2) else S σ2 H3)
    (hd : ∀ D H', Ext H1 H' → H' D = some (.lst ((os.map F).map V.bl)) → Q (.ref D) H') : CompW m g tt te σ Q (Itt K a) H1 := by
  have hl := hx.len
  refine comp_tup (xs := xs) hn (fun D i σ' H' zs => σP σ' ∧ Ext H1 H' ∧ H' D = some (.lst zs) ∧ H1 D = none ∧ zs = ((os.take i).map F).map V.bl) ?_ ?_ ?_ ?_
  · intro D hD
    exact ⟨h0, (Ext.refl _).new hD _, upd_same, hD, rfl⟩
  · rintro D i σ' H' zs hD ⟨_, e, h2, _, rfl⟩
    refine ⟨e _ _ ha, h2, ?_⟩
    rw [List.length_map, List.length_map, List.length_take]
    omega
  · rintro D i σ' H' zs x hD hi ⟨p, e, h2, hn, rfl⟩
    obtain ⟨o, ho, hAt⟩ := hx.get hi
    refine step σ' H' x o _ _ p e (hAt.ext e) fun σ2 H'' p2 e2 => ⟨e2 _ _ h2, p2, (e.trans e2).updNew hn _, upd_same, hn, ?_⟩
    have : os.take (i + 1) = os.take i ++ [o] := by
      rw [List.take_add_one, ho]
      rfl
    rw [this, List.map_append, List.map_append]
    rfl
  · rintro D σ' H' zs hD ⟨_, e, h2, _, rfl⟩
    rw [hl, List.take_length] at h2
    exact hd D H' e h2
section
variable {P : Program} {w : World} {K : PySem.W.Frag} {mg : Str → Option Value} {base : Heap}
abbrev XOf (N : List Str) (q : Str) (st : Stmt) (P : Program) (w : World) (K : PySem.W.Frag) (mg : Str → Option Value) (base : Heap) (f : Addr) (cdv : Value) (A : Around) (outer : List Env) (s : Shared) (H : Hp) (E : XK) : Cx := (cxOf CX0 P w K mg base N q (defScope st) f cdv A outer s H E).nox
variable {f fW fR : Addr} {fdW fdR : FuncData} {cdv : Value} {A : Around} {outer : List Env} {s : Shared} {H0 : Hp} {E : XK}
/-! is_whole, _law_whole -/
abbrev nWhole0 : List Str := ["thing"]
theorem scWhole0 : FnScope nWhole0 ["thing"] (defScope sWhole0) := ⟨rfl, rfl, rfl, by decide +kernel, rfl, by decide +kernel, by decide +kernel⟩
def spWh : Sp := fun vs H Q _ => ∃ v o, vs = [v] ∧ At H o v ∧ Q (.bl (isInt o)) H
def whole0A (T : Txt mg) : { t : TS // JSs (XOf nWhole0 "is_whole" sWhole0 P w K mg base f cdv A outer s H0 E) (defBody sWhole0) t } :=
  have nd := scWhole0.nd
  ⟨_, (jss_one (js_ret ((je_and (je_callB call_isinst (gl_d (by decide +kernel)) T.isinstance (by decide +kernel) (ja_cons (jv 0 rfl (vis_l (by decide +kernel))) (ja_cons (je_bltn (v := .ty "int") (gl_d (by decide +kernel)) T.int (by decide +kernel) rfl) ja_nil se_name) se_name) se_name) (je_one (je_not (je_callB call_isinst (gl_d (by decide +kernel)) T.isinstance (by decide +kernel) (ja_cons (jv 0 rfl (vis_l (by decide +kernel))) (ja_cons (je_bltn (v := .ty "bool") (gl_d (by decide +kernel)) T.bool (by decide +kernel) rfl) ja_nil se_name) se_name) se_name)))))))⟩
theorem ok_whole0 {fd : FuncData} (F : Fun K "is_whole" "is_whole" sWhole0 f fd) (T : Txt mg) : FnOk P w K mg base CX0 1 f fd ["thing"] spWh := by
  refine F.ok scWhole0 (fun vs H Q E h => ?_) (fun cdv A outer s H vs Q E hr h => ?_)
  · obtain ⟨_, _, rfl, _⟩ := h
    rfl
  · obtain ⟨v, o, rfl, hA, q⟩ := h
    obtain ⟨t, ty, _, b1, b2, k1, k2, e⟩ := hA.ty K
    refine ⟨_, (whole0A T).2.h, ?_⟩
    refine ⟨_, rfl, _, _, _, b1, rfl, ty, k1, b1, rfl, ?_⟩
    rw [← e] at q
    cases b1 with
    | true => exact iteT ⟨_, rfl, _, _, _, b2, rfl, ty, k2, b2, rfl, q⟩
    | false => exact iteF q
end
end Eo
end
section
namespace L2
open PySem
theorem qb {Q : VK} {H : Hp} {a b : Bool} (q : Q (.bl a) H) (e : a = b) : Q (.bl b) H := e ▸ q
end L2
namespace L2
open PySem
section
variable {P : Program} {w : World} {K : PySem.W.Frag} {mg : Str → Option Value} {base : Heap} {N : List Str} {qual : Str} {sc : Scope} {f : Addr} {cdv : Value} {A : Around} {outer : List Env} {s : Shared} {H : Hp} {E : XK} {x y z : Str} {p1 p2 p3 pos : Pos} {k i j l : Nat}
end
end L2
namespace L2
open PySem
section
variable {K : PySem.W.Frag} {m : List (Option Nat)} {g : TG} {tt : TT} {te : TE} {σ : St} {H1 : Hp} {Q : VK}
theorem comp_lst {a : Addr} {xs : List V} (hn : xs.length < sizeLine) (Pv : Addr → Nat → St → Hp → List V → Prop) (h0 : ∀ D, H1 D = none → Pv D 0 (blkσ m σ) (upd H1 D (.lst [])) [])
    (hD : ∀ D i σ' H' zs, H1 D = none → Pv D i σ' H' zs → H' a = some (.lst xs) ∧ H' D = some (.lst zs) ∧ zs.length ≤ i)
    (hs : ∀ D i σ' H' zs x, H1 D = none → xs[i]? = some x → Pv D i σ' H' zs → g x σ' H' fun σ2 H2 => tt σ2 H2 fun b H3 => if b = true then te σ2 H3 fun v H4 => H4 D = some (.lst zs) ∧ Pv D (i + 1) σ2 (upd H4 D (.lst (zs ++ [v]))) (zs ++ [v]) else Pv D (i + 1) σ2 H3 zs)
    (hd : ∀ D σ' H' zs, H1 D = none → Pv D xs.length σ' H' zs → Q (.ref D) H') : CompW m g tt te σ Q (Itl K a) H1 := by
  intro D hDn
  refine ⟨fun i k σ' H' zs => k = xs.length - i ∧ i ≤ xs.length ∧ Pv D i σ' H' zs, ⟨_, rfl, Nat.zero_le _, h0 D hDn⟩, ?_⟩
  rintro i k σ' H' zs ⟨rfl, hi, p⟩
  obtain ⟨s1, q1, q2⟩ := hD D i σ' H' zs hDn p
  refine ⟨q1, by omega, ?_⟩
  by_cases hlt : i < xs.length
  · refine .inr ⟨⟨xs, xs[i], SqL.of s1, by simp [hlt]⟩, Pv D (i + 1), fun σ2 H2 zs z => ⟨xs.length - (i + 1), by omega, rfl, hlt, z⟩, fun v H'' y => ?_⟩
    obtain ⟨e1, e2⟩ := y
    subst e1
    exact hs D i σ' _ zs v hDn (e2 xs (SqL.of s1)) p
  · have e : i = xs.length := by omega
    subst e
    exact .inl ⟨⟨xs, SqL.of s1, Nat.le_refl _⟩, hd D σ' H' zs hDn p⟩
end
end L2
namespace Eo
open PySem L2
section
variable {P : Program} {w : World} {K : PySem.W.Frag} {mg : Str → Option Value} {base : Heap}
variable {f fW fR fU : Addr} {fdW fdR fdU : FuncData} {cdv : Value} {A : Around} {outer : List Env} {s : Shared} {H0 : Hp} {E : XK}
/-! _law_whole, _law_upto -/
abbrev nWhole : List Str := ["found"]
theorem scWhole : FnScope nWhole ["found"] (defScope sWhole) := ⟨rfl, rfl, rfl, by decide +kernel, rfl, by decide +kernel, by decide +kernel⟩
def wholeA (T : Txt mg) : { t : TS // JSs (XOf nWhole "_law_whole" sWhole P w K mg base f cdv A outer s H0 E) (defBody sWhole) t } :=
  have nd := scWhole.nd
  ⟨_, (jss_one (js_ret ((je_and (je_callB call_isinst (gl_d (by decide +kernel)) T.isinstance (by decide +kernel) (ja_cons (jv 0 rfl (vis_l (by decide +kernel))) (ja_cons (je_bltn (v := .ty "int") (gl_d (by decide +kernel)) T.int (by decide +kernel) rfl) ja_nil se_name) se_name) se_name) (je_one (je_not (je_callB call_isinst (gl_d (by decide +kernel)) T.isinstance (by decide +kernel) (ja_cons (jv 0 rfl (vis_l (by decide +kernel))) (ja_cons (je_bltn (v := .ty "bool") (gl_d (by decide +kernel)) T.bool (by decide +kernel) rfl) ja_nil se_name) se_name) se_name)))))))⟩
theorem ok_whole {fd : FuncData} (F : Fun K "_law_whole" "_law_whole" sWhole f fd) (T : Txt mg) : FnOk P w K mg base CX0 1 f fd ["found"] spWh := by
  refine F.ok scWhole (fun vs H Q E h => ?_) (fun cdv A outer s H vs Q E hr h => ?_)
  · obtain ⟨_, _, rfl, _⟩ := h
    rfl
  · obtain ⟨v, o, rfl, hA, q⟩ := h
    obtain ⟨t, ty, _, b1, b2, k1, k2, e⟩ := hA.ty K
    refine ⟨_, (wholeA T).2.h, ?_⟩
    refine ⟨_, rfl, _, _, _, b1, rfl, ty, k1, b1, rfl, ?_⟩
    rw [← e] at q
    cases b1 with
    | true => exact iteT ⟨_, rfl, _, _, _, b2, rfl, ty, k2, b2, rfl, q⟩
    | false => exact iteF q
end
/-! lists of ints as values -/
theorem flat_ints (l : List Int) : (l.map V.int).all flatV = true := by
  rw [List.all_eq_true]
  intro x hx
  obtain ⟨i, _, rfl⟩ := List.mem_map.mp hx
  rfl
theorem inV_ints (i : Int) (l : List Int) : inV (.int i) (l.map V.int) = decide (i ∈ l) := by
  unfold inV
  rw [Bool.eq_iff_iff, List.any_eq_true, decide_eq_true_iff]
  constructor
  · rintro ⟨x, hx, e⟩
    obtain ⟨j, hj, rfl⟩ := List.mem_map.mp hx
    have : j = i := eq_of_beq e
    rw [← this]
    exact hj
  · intro h
    exact ⟨.int i, List.mem_map.mpr ⟨i, h, rfl⟩, by simp [eqV]⟩
/-- all of these are told -/
def Alls (H : Hp) (vs : List V) : Prop := ∀ v ∈ vs, ∃ o, At H o v
theorem Alls.nil (H : Hp) : Alls H [] := fun v hv => by cases hv
theorem Alls.cons {H : Hp} {v : V} {o : Ob} {vs : List V} (h : At H o v) (r : Alls H vs) : Alls H (v :: vs) := fun x hx => by
  rcases List.mem_cons.mp hx with q | q
  · subst q; exact ⟨o, h⟩
  · exact r x q
theorem Alls.append {H : Hp} {vs us : List V} (a : Alls H vs) (b : Alls H us) : Alls H (vs ++ us) := fun x hx => by
  rcases List.mem_append.mp hx with q | q
  · exact a x q
  · exact b x q
theorem Alls.mono {H H' : Hp} (k : Kp H H') {vs : List V} (a : Alls H vs) : Alls H' vs := fun x hx => let ⟨o, h⟩ := a x hx; ⟨o, At.mono k o x h⟩
theorem Alls.ext {H H' : Hp} (k : Ext H H') {vs : List V} (a : Alls H vs) : Alls H' vs := a.mono (.of k)
theorem Alls.pick {H : Hp} {vs : List V} (a : Alls H vs) {i : Int} (h0 : 0 ≤ i) (h1 : i < vs.length) : ∃ v o, atI vs i = some v ∧ At H o v := by
  have hi : i.toNat < vs.length := by omega
  obtain ⟨o, ho⟩ := a vs[i.toNat] (List.getElem_mem hi)
  refine ⟨_, o, ?_, ho⟩
  have e : ((i.toNat : Nat) : Int) = i := by omega
  have q := atI_nat (xs := vs) (j := i.toNat) (v := vs[i.toNat]) (by simp [hi])
  rw [e] at q
  exact q
theorem at_non (H : Hp) : At H .oth .non := .inl rfl
theorem at_bl (H : Hp) (b : Bool) : At H .oth (.bl b) := .inr (.inl ⟨b, rfl⟩)
theorem at_str (H : Hp) (x : Str) : At H .oth (.str x) := .inr (.inr (.inl ⟨x, rfl⟩))
theorem at_int (H : Hp) (i : Int) : At H (.int i) (.int i) := rfl
theorem at_lst {H : Hp} {a : Addr} {xs : List V} (h : H a = some (.lst xs)) : At H .oth (.ref a) := .inr (.inr (.inr ⟨a, rfl, .inl ⟨xs, h⟩⟩))
theorem at_dct {H : Hp} {a : Addr} {xs : List (Key × V)} (h : H a = some (.dK xs)) : At H .oth (.ref a) := .inr (.inr (.inr ⟨a, rfl, .inr ⟨xs, h⟩⟩))
theorem at_tup {H : Hp} {a : Addr} {vs : List V} {os : List Ob} (h : H a = some (.tup vs)) (n : vs.length ≤ 100) (r : Ats H os vs) : At H (.tup os) (.ref a) := ⟨a, vs, rfl, h, n, r⟩
theorem ats0 (H : Hp) : Ats H [] [] := rfl
theorem ats1 {H : Hp} {o : Ob} {v : V} {os : List Ob} {vs : List V} (h : At H o v) (r : Ats H os vs) : Ats H (o :: os) (v :: vs) := ⟨v, vs, rfl, h, r⟩
end Eo
end
section
namespace Eo
open PySem L2
theorem _root_.L2.Ext.tups {H H' : Hp} (e : Ext H H') : Tups H H' := fun b xs h => e b _ h
theorem PcsAt.at {H : Hp} : ∀ {vs : List V} {ps : List (List Int × Int)}, PcsAt H vs ps → ∀ {i : Nat} {v : V}, vs[i]? = some v → ∃ pc, ps[i]? = some pc ∧ PcAt H v pc
  | [], [], _, i, v, e => by cases e
  | x :: vs, p :: ps, h, 0, v, e => by cases e; exact ⟨p, rfl, h.1⟩
  | x :: vs, p :: ps, h, i + 1, v, e => PcsAt.at h.2 (i := i) e
  | [], _ :: _, h, _, _, _ => h.elim
  | _ :: _, [], h, _, _, _ => h.elim
theorem iteNT {c A B : Prop} [Decidable c] (hc : ¬ c) (h : A) : if (!decide c) = true then A else B := by
  rw [decide_eq_false hc]
  exact h
def valO : Ob → Int
  | .int i => i
  | _ => 0
def nAt (ns : List Int) (t : Int) : Int := ns.getD t.toNat 0
theorem ns_at {ns : List Int} {t : Int} (h0 : 0 ≤ t) (h1 : t < ns.length) : atI (ns.map V.int) t = some (.int (nAt ns t)) := by
  obtain ⟨n, rfl⟩ : ∃ n : Nat, t = (n : Int) := ⟨t.toNat, by omega⟩
  refine atI_nat ?_
  unfold nAt
  rw [List.getElem?_map, Int.toNat_natCast, List.getD_eq_getElem?_getD, List.getElem?_eq_getElem (by omega)]
  rfl
def mus (mays : List Int) (n : Nat) : List Int := ((List.range n).filter fun (t : Nat) => !decide ((t : Int) ∈ mays)).map fun (t : Nat) => (t : Int)
theorem mus_succ (mays : List Int) (n : Nat) : mus mays (n + 1) = mus mays n ++ (if (!decide ((n : Int) ∈ mays)) = true then [(n : Int)] else []) := by
  unfold mus
  rw [List.range_succ, List.filter_append, List.map_append]
  congr 1
  rw [List.filter_cons]
  split <;> rfl
theorem mus_len (mays : List Int) (n : Nat) : (mus mays n).length ≤ n := by
  unfold mus
  rw [List.length_map]
  exact Nat.le_trans (List.length_filter_le _ _) (by rw [List.length_range]; exact Nat.le_refl _)
def wL (ns : List Int) (pcs : List (List Int × Int)) (t : Int) (n : Nat) : List Int := (((ns.zip pcs).take n).filter fun x => decide (t ∈ x.2.1)).map Prod.fst
theorem wL_len (ns : List Int) (pcs : List (List Int × Int)) (t : Int) (n : Nat) : (wL ns pcs t n).length ≤ n := by
  unfold wL
  rw [List.length_map]
  refine Nat.le_trans (List.length_filter_le _ _) ?_
  rw [List.length_take]
  omega
theorem wL_succ {ns : List Int} {pcs : List (List Int × Int)} {t a : Int} {j : Nat} {pc : List Int × Int} (h1 : ns[j]? = some a) (h2 : pcs[j]? = some pc) : wL ns pcs t (j + 1) = wL ns pcs t j ++ (if decide (t ∈ pc.1) = true then [a] else []) := by
  unfold wL
  have e : (ns.zip pcs).take (j + 1) = (ns.zip pcs).take j ++ [(a, pc)] := by
    rw [List.take_add_one, show (ns.zip pcs)[j]? = some (a, pc) from List.getElem?_zip_eq_some.mpr ⟨h1, h2⟩]
    rfl
  rw [e, List.filter_append, List.map_append, List.filter_cons]
  congr 1
  show List.map Prod.fst (if decide (t ∈ pc.1) = true then [(a, pc)] else []) = _
  split <;> rfl
/-- for each must the numbers come to 1 -/
def onesB (w : Int) (ms : List Int) (pcs : List (List Int × Int)) (ns : List Int) : Bool := (mus ms w.toNat).all fun t => decide ((wL ns pcs t pcs.length).sum = 1)
def wholesB (w : Int) (ms : List Int) (pcs : List (List Int × Int)) : Ob → Bool
  | .tup os => decide (os.length = pcs.length) && (os.all isInt && onesB w ms pcs (os.map valO))
  | _ => false
theorem Ats.intsW {H : Hp} : ∀ {os : List Ob} {vs : List V}, Ats H os vs → os.all isInt = true → vs = (os.map valO).map V.int
  | [], vs, h, _ => by cases (show vs = [] from h); rfl
  | o :: os, vs, h, ha => by
    obtain ⟨v, r, rfl, h1, h2⟩ := h
    rw [List.all_cons, Bool.and_eq_true] at ha
    cases o with
    | int i =>
      cases (show v = .int i from h1)
      rw [Ats.intsW h2 ha.2]
      rfl
    | oth => cases ha.1
    | tup _ => cases ha.1
theorem wh_tup {w : Int} {ms : List Int} {pcs : List (List Int × Int)} {o : Ob} (h : isTup o = false) : wholesB w ms pcs o = false := by cases o <;> first | rfl | cases h
section
variable {P : Program} {w : World} {K : PySem.W.Frag} {mg : Str → Option Value} {base : Heap}
variable {f fW fM : Addr} {fdW fdM : FuncData} {cdv : Value} {A : Around} {outer : List Env} {s : Shared} {H0 : Hp} {E : XK}
/-! musts_of -/
def spMusts : Sp := fun vs H Q _ => ∃ (b qm : Addr) (x3 : V) (w : Int) (mays : List Int), vs = [.ref b] ∧ H b = some (.tup [.int w, .ref qm, x3]) ∧ H qm = some (.tup (mays.map V.int)) ∧ 0 ≤ w ∧ w ≤ 1000 ∧ ∀ l, H l = none → Q (.ref l) (upd H l (.lst ((mus mays w.toNat).map V.int)))
abbrev nMusts : List Str := ["box", "mays"]
theorem scMusts : FnScope nMusts ["box"] (defScope sMusts) := ⟨rfl, rfl, rfl, by decide +kernel, rfl, by decide +kernel, by decide +kernel⟩
def mustsA (T : Txt mg) : { t : TS // JSs (XOf nMusts "musts_of" sMusts P w K mg base f cdv A outer s H0 E) (defBody sMusts) t } :=
  have nd := scMusts.nd
  ⟨_, (jss_cons (js_set (i := 1) nd rfl (loc_c (by decide +kernel)) (je_ix ix_tup (jv 0 rfl (vis_l (by decide +kernel))) (je_int) px_const) sw_sub)
      (jss_one (js_ret (je_comp (m := [none, some 1]) (Nc := ["thing", "mays"]) rfl (ji_range1 (gl_d (by decide +kernel)) T.range (ja_cons (je_ix ix_tup (jv 0 rfl (vis_l (by decide +kernel))) (je_int) px_const) ja_nil se_sub) se_sub) rfl (by decide +kernel) (by decide +kernel) (free_ok (psc := defScope sMusts) (by decide +kernel)) (freeAt_ok (N := nMusts) rfl rfl (by decide +kernel)) (fun cl C fp s H => jg_name (i := 0) (show (["thing", "mays"] : List Str).Nodup by decide +kernel) rfl (loc_b (by decide +kernel))) (fun cl C fp s H => jts_one (jt_cmpR op_notIn_b (jv 0 rfl (vis_bl (by decide +kernel))) (jv 1 rfl (vis_bf (by decide +kernel))) nm_name)) (fun cl C fp s H => (jv 0 rfl (vis_bl (by decide +kernel)))) fo_call))))⟩
theorem ok_musts {fd : FuncData} (F : Fun K "musts_of" "musts_of" sMusts f fd) (T : Txt mg) : FnOk P w K mg base CX0 1 f fd ["box"] spMusts := by
  refine F.ok scMusts (fun vs H Q E h => ?_) (fun cdv A outer s H vs Q E hr h => ?_)
  · obtain ⟨_, _, _, _, _, rfl, _⟩ := h
    rfl
  · obtain ⟨b, qm, x3, w, mays, rfl, hb, hm, w0, w1, q⟩ := h
    refine ⟨_, (mustsA T).2.h, ?_⟩
    refine ⟨_, rfl, b, _, 1, _, rfl, rfl, SqT.of hb, rfl, ?_⟩
    refine ⟨_, rfl, b, _, 0, _, rfl, rfl, SqT.of hb, rfl, w, rfl, by omega, by omega, comp_rng (n := w.toNat) (by rw [PySem.sizeLine_eq]; omega) (fun D i σ' H' ys => (∃ v, σ' = [v, some (.ref qm)]) ∧ ys = (mus mays i).map V.int ∧ H' = upd H D (.lst ys)) ?_ ?_ ?_ ?_⟩
    · intro D hD
      exact ⟨⟨_, rfl⟩, rfl, rfl⟩
    · rintro D i σ' H' ys hD hi ⟨_, rfl, rfl⟩
      exact ⟨upd_same, by rw [List.length_map]; exact mus_len _ _⟩
    · rintro D i σ' H' ys hD hi ⟨⟨v, rfl⟩, rfl, rfl⟩
      have e0 : (0 + (i : Int)) = (i : Int) := by omega
      refine ⟨_, rfl, _, rfl, qm, _, rfl, .inr (SqT.of (by rw [upd_ne (ne_of_none hm hD)]; exact hm)), rfl, flat_ints mays, _, rfl, ?_⟩
      rw [e0, inV_ints]
      refine ite2 (fun hz => ?_) (fun hz => ?_)
      · rw [if_pos rfl] at hz
        refine ⟨_, rfl, upd_same, ⟨_, rfl⟩, ?_, upd_upd⟩
        rw [mus_succ, if_pos hz, List.map_append]
        rfl
      · rw [if_pos rfl] at hz
        refine ⟨⟨_, rfl⟩, ?_, rfl⟩
        rw [mus_succ, if_neg hz, List.append_nil]
    · rintro D σ' H' ys hD ⟨_, rfl, rfl⟩
      exact q D hD
abbrev nLMusts : List Str := ["box"]
theorem scLMusts : FnScope nLMusts ["box"] (defScope sLMusts) := ⟨rfl, rfl, rfl, by decide +kernel, rfl, by decide +kernel, by decide +kernel⟩
def lmustsA (T : Txt mg) : { t : TS // JSs (XOf nLMusts "_law_musts" sLMusts P w K mg base f cdv A outer s H0 E) (defBody sLMusts) t } :=
  have nd := scLMusts.nd
  ⟨_, (jss_one (js_ret (je_comp (m := [none, some 0]) (Nc := ["thing", "box"]) rfl (ji_range1 (gl_d (by decide +kernel)) T.range (ja_cons (je_ix ix_tup (jv 0 rfl (vis_c (by decide +kernel))) (je_int) px_const) ja_nil se_sub) se_sub) rfl (by decide +kernel) (by decide +kernel) (free_ok (psc := defScope sLMusts) (by decide +kernel)) (freeAt_ok (N := nLMusts) rfl rfl (by decide +kernel)) (fun cl C fp s H => jg_name (i := 0) (show (["thing", "box"] : List Str).Nodup by decide +kernel) rfl (loc_b (by decide +kernel))) (fun cl C fp s H => jts_one (jt_cmpR op_notIn_b (jv 0 rfl (vis_bl (by decide +kernel))) (je_ix ix_tup_b (jv 1 rfl (vis_bf (by decide +kernel))) (je_int) px_const) nm_sub)) (fun cl C fp s H => (jv 0 rfl (vis_bl (by decide +kernel)))) fo_call)))⟩
theorem ok_lmusts {fd : FuncData} (F : Fun K "_law_musts" "_law_musts" sLMusts f fd) (T : Txt mg) : FnOk P w K mg base CX0 1 f fd ["box"] spMusts := by
  refine F.ok scLMusts (fun vs H Q E h => ?_) (fun cdv A outer s H vs Q E hr h => ?_)
  · obtain ⟨_, _, _, _, _, rfl, _⟩ := h
    rfl
  · obtain ⟨b, qm, x3, w, mays, rfl, hb, hm, w0, w1, q⟩ := h
    refine ⟨_, (lmustsA T).2.h, ?_⟩
    refine ⟨_, rfl, b, _, 0, _, rfl, rfl, SqT.of hb, rfl, w, rfl, by omega, by omega, comp_rng (n := w.toNat) (by rw [PySem.sizeLine_eq]; omega) (fun D i σ' H' ys => (∃ v, σ' = [v, some (.ref b)]) ∧ ys = (mus mays i).map V.int ∧ H' = upd H D (.lst ys)) ?_ ?_ ?_ ?_⟩
    · intro D hD
      exact ⟨⟨_, rfl⟩, rfl, rfl⟩
    · rintro D i σ' H' ys hD hi ⟨_, rfl, rfl⟩
      exact ⟨upd_same, by rw [List.length_map]; exact mus_len _ _⟩
    · rintro D i σ' H' ys hD hi ⟨⟨v, rfl⟩, rfl, rfl⟩
      have e0 : (0 + (i : Int)) = (i : Int) := by omega
      refine ⟨_, rfl, _, rfl, b, _, 1, _, rfl, rfl, SqT.of (by rw [upd_ne (ne_of_none hb hD)]; exact hb), rfl, qm, _, rfl, .inr (SqT.of (by rw [upd_ne (ne_of_none hm hD)]; exact hm)), rfl, flat_ints mays, _, rfl, ?_⟩
      rw [e0, inV_ints]
      refine ite2 (fun hz => ?_) (fun hz => ?_)
      · rw [if_pos rfl] at hz
        refine ⟨_, rfl, upd_same, ⟨_, rfl⟩, ?_, upd_upd⟩
        rw [mus_succ, if_pos hz, List.map_append]
        rfl
      · rw [if_pos rfl] at hz
        refine ⟨⟨_, rfl⟩, ?_, rfl⟩
        rw [mus_succ, if_neg hz, List.append_nil]
    · rintro D σ' H' ys hD ⟨_, rfl, rfl⟩
      exact q D hD
def spWho : Sp := fun vs H Q _ => ∃ (b : Addr) (v : V) (o : Ob) (w : Int) (ms : List Int) (pcs : List (List Int × Int)), vs = [.ref b, v] ∧ BoxAt H b w ms pcs ∧ Good 16 32 w ms pcs ∧ At H o v ∧ ∀ H', Ext H H' → Q (.bl (wholesB w ms pcs o)) H'
abbrev nAre : List Str := ["box", "thing", "must"]
theorem scAre : FnScope nAre ["box", "thing"] (defScope sAre) := ⟨rfl, rfl, rfl, by decide +kernel, rfl, by decide +kernel, by decide +kernel⟩
def areL (T : Txt mg) (CW : Can P w K mg base "is_whole" 1 fW fdW ["thing"] spWh) (CM : Can P w K mg base "musts_of" 1 fM fdM ["box"] spMusts) (hr : Room 1 (XOf nAre "are_wholes" sAre P w K mg base f cdv A outer s H0 E).A) : { t : TS // JSs (XOf nAre "are_wholes" sAre P w K mg base f cdv A outer s H0 E) (loopOf ((defBody sAre).getD 1 (.Pass ⟨0, 0, 0, 0⟩))) t } :=
  have nd := scAre.nd
  ⟨_, (jss_one (js_if (jt_cmpR op_ne (je_callB (call_sumL rfl) (gl_d (by decide +kernel)) T.sum (by decide +kernel) (ja_cons (je_comp (m := [none, none, some 2]) (Nc := ["number", "piece", "must"]) rfl (ji_zip (gl_d (by decide +kernel)) T.zip (ja_cons (jv 1 rfl (vis_l (by decide +kernel))) (ja_cons (je_ix ix_tup (jv 0 rfl (vis_l (by decide +kernel))) (je_int) px_const) ja_nil se_sub) se_name) se_name) rfl (by decide +kernel) (by decide +kernel) (free_ok (psc := defScope sAre) (by decide +kernel)) (freeAt_ok (N := nAre) rfl rfl (by decide +kernel)) (fun cl C fp s H => jg_pair_b (i := 0) (j := 1) rfl (show (["number", "piece", "must"] : List Str).Nodup by decide +kernel) rfl rfl (by decide +kernel) (by decide +kernel)) (fun cl C fp s H => jts_one (jt_cmpR op_in_b (jv 2 rfl (vis_bf (by decide +kernel))) (je_ix ix_tup_b (jv 1 rfl (vis_bl (by decide +kernel))) (je_int) px_const) nm_sub)) (fun cl C fp s H => (jv 0 rfl (vis_bl (by decide +kernel)))) fo_call) ja_nil se_comp) se_comp) (je_int) (nomark _)) (jss_one (js_ret (je_bl))) jss_nil))⟩
def areA (T : Txt mg) (CW : Can P w K mg base "is_whole" 1 fW fdW ["thing"] spWh) (CM : Can P w K mg base "musts_of" 1 fM fdM ["box"] spMusts) (hr : Room 1 (XOf nAre "are_wholes" sAre P w K mg base f cdv A outer s H0 E).A) : { t : TS // JSs (XOf nAre "are_wholes" sAre P w K mg base f cdv A outer s H0 E) (defBody sAre) t } :=
  have nd := scAre.nd
  ⟨_, (jss_cons (js_if (jt_w (jw_or (jt_not (jt_val (je_callB call_isinst (gl_d (by decide +kernel)) T.isinstance (by decide +kernel) (ja_cons (jv 1 rfl (vis_l (by decide +kernel))) (ja_cons (je_bltn (v := .ty "tuple") (gl_d (by decide +kernel)) T.tuple (by decide +kernel) rfl) ja_nil se_name) se_name) se_name) tv_call)) (jw_or (jt_cmpR op_ne (je_callB call_len_seq (gl_d (by decide +kernel)) T.len (by decide +kernel) (ja_cons (jv 1 rfl (vis_l (by decide +kernel))) ja_nil se_name) se_name) (je_callB call_len_seq (gl_d (by decide +kernel)) T.len (by decide +kernel) (ja_cons (je_ix ix_tup (jv 0 rfl (vis_l (by decide +kernel))) (je_int) px_const) ja_nil se_sub) se_sub) (nomark _)) (jw_or1 (jt_not (jt_val (je_callB (call_allL rfl) (gl_d (by decide +kernel)) T.all (by decide +kernel) (ja_cons (je_comp (m := [none]) (Nc := ["number"]) rfl (ji_tup (jv 1 rfl (vis_l (by decide +kernel)))) rfl (by decide +kernel) (by decide +kernel) (free_ok (psc := defScope sAre) (by decide +kernel)) (freeAt_ok (N := nAre) rfl rfl (by decide +kernel)) (fun cl C fp s H => jg_name (i := 0) (show (["number"] : List Str).Nodup by decide +kernel) rfl (loc_b (by decide +kernel))) (fun cl C fp s H => jts_nil) (fun cl C fp s H => (CW.je (hr.mono (by decide)) (gl_b (by decide +kernel)) (ja_cons (jv 0 rfl (vis_bl (by decide +kernel))) ja_nil se_name) se_name)) fo_name) ja_nil se_comp) se_comp) tv_call)))))) (jss_one (js_ret (je_bl))) jss_nil) (jss_cons (js_for PassesOwn.never rfl (ji_list (CM.je hr (gl_d (by decide +kernel)) (ja_cons (jv 0 rfl (vis_l (by decide +kernel))) ja_nil se_name) se_name)) (jg_name (i := 2) nd rfl (loc_c (by decide +kernel))) (areL T CW CM hr).2 fo_call) (jss_one (js_ret (je_bl)))))⟩
theorem ok_are {fd : FuncData} (F : Fun K "are_wholes" "are_wholes" sAre f fd) (T : Txt mg) (CW : Can P w K mg base "is_whole" 1 fW fdW ["thing"] spWh) (CM : Can P w K mg base "musts_of" 1 fM fdM ["box"] spMusts) : FnOk P w K mg base CX0 2 f fd ["box", "thing"] spWho := by
  refine F.ok scAre (fun vs H Q E h => ?_) (fun cdv A outer s H vs Q E hr h => ?_)
  · obtain ⟨_, _, _, _, _, _, rfl, _⟩ := h
    rfl
  · obtain ⟨b, v, o, w, ms, pcs, rfl, hB, g, hA, q⟩ := h
    obtain ⟨qm, qp, ps, b1, b2, b3, b4⟩ := hB.ex
    have pl := b4.len
    have gl := g.pl
    have w0 := g.w0
    have w1 := g.w1
    obtain ⟨t, ty, kt, _⟩ := hA.ty K
    refine ⟨_, (areA T CW CM hr).2.h, ?_⟩
    refine ⟨_, rfl, _, _, _, _, rfl, ty, kt, _, rfl, ?_⟩
    cases ht : isTup o with
    | false => exact iteT (iteT (qb (q H (Ext.refl H)) (wh_tup ht)))
    | true =>
      refine iteF ?_
      obtain ⟨os, a, vs, rfl, rfl, ha, h100, hx⟩ := hA.tupOf ht
      have hl := hx.len
      have hn : vs.length < sizeLine := by rw [PySem.sizeLine_eq]; omega
      have q : ∀ H', Ext H H' → Q (.bl (decide (os.length = pcs.length) && (os.all isInt && onesB w ms pcs (os.map valO)))) H' := q
      refine ⟨_, rfl, a, _, rfl, .inr (SqT.of ha), _, rfl, b, _, 2, _, rfl, rfl, SqT.of b1, rfl, qp, _, rfl, .inr (SqT.of b3), rfl, _, rfl, ?_⟩
      by_cases hle : vs.length = ps.length
      · refine iteNS (by rw [hle]) ?_
        rw [decide_eq_true (show os.length = pcs.length by omega), Bool.true_and] at q
        refine ⟨_, rfl, a, rfl, ⟨_, SqT.of ha⟩, comp_tupB (F := isInt) ha hx hn (fun σ' => ∃ v, σ' = [v]) ⟨_, rfl⟩ ?_ ?_⟩
        · rintro σ' H' v o R S ⟨u, rfl⟩ e hA k
          dsimp only [gName, tTrue]
          rw [if_pos rfl]
          exact ⟨_, rfl, v, o, rfl, hA, k _ H' ⟨_, rfl⟩ (Ext.refl _)⟩
        · intro D H1 e1 hD
          refine ⟨D, _, rfl, SqL.of hD, _, rfl, ?_⟩
          have eall : (os.map isInt).all id = os.all isInt := by rw [List.all_map]; rfl
          rw [eall]
          cases hall : os.all isInt with
          | false =>
            rw [hall, Bool.false_and] at q
            exact iteT (q H1 e1)
          | true =>
            rw [hall, Bool.true_and] at q
            refine iteF ?_
            have evs := hx.intsW hall
            generalize hns : os.map valO = ns at q evs
            subst evs
            rw [List.length_map] at hle
            refine ⟨_, rfl, b, qm, _, w, ms, rfl, e1 _ _ b1, e1 _ _ b2, w0, by omega, fun l hl2 => ?_⟩
            have e2 := e1.new hl2 (.lst ((mus ms w.toNat).map V.int))
            have hl3 : (upd H1 l (.lst ((mus ms w.toNat).map V.int))) l = some (.lst ((mus ms w.toNat).map V.int)) := upd_same
            generalize upd H1 l (.lst ((mus ms w.toNat).map V.int)) = H2 at e2 hl3 ⊢
            refine ⟨l, rfl, ⟨_, SqL.of hl3⟩, for_list (xs := (mus ms w.toNat).map V.int) (fun i σ H' => (∃ v2, σ = [some (.ref b), some (.ref a), v2]) ∧ Ext H2 H' ∧ ((mus ms w.toNat).take i).all (fun t => decide ((wL ns pcs t pcs.length).sum = 1)) = true) ⟨⟨_, rfl⟩, Ext.refl _, rfl⟩ (fun i σ H' _ ⟨_, e, _⟩ => SqL.of (e _ _ hl3)) ?_ ?_⟩
            · rintro i x σ H3 hx3 ⟨⟨v2, rfl⟩, e3, hall3⟩
              obtain ⟨u, hu, rfl⟩ : ∃ z : Int, (mus ms w.toNat)[i]? = some z ∧ V.int z = x := by
                rw [List.getElem?_map] at hx3
                cases hq : (mus ms w.toNat)[i]? with
                | none => rw [hq] at hx3; cases hx3
                | some z => rw [hq] at hx3; cases hx3; exact ⟨z, rfl, rfl⟩
              have E3 := e2.trans e3
              have rest : ∀ (D4 : Addr) (H4 : Hp), H4 D4 = some (.lst ((wL ns pcs u pcs.length).map V.int)) → Ext H3 H4 → (if (!decide (V.int (wL ns pcs u pcs.length).sum = V.int 1)) = true then Q (.bl false) H4 else (∃ v2, ([some (.ref b), some (.ref a), some (.int u)] : St) = [some (.ref b), some (.ref a), v2]) ∧ Ext H2 H4 ∧ ((mus ms w.toNat).take (i + 1)).all (fun t => decide ((wL ns pcs t pcs.length).sum = 1)) = true) := fun D4 H4 h4 e4 => by
                by_cases h1 : (wL ns pcs u pcs.length).sum = 1
                · refine iteNS (by rw [h1]) ⟨⟨_, rfl⟩, e3.trans e4, ?_⟩
                  rw [List.take_add_one, hu, List.all_append, hall3]
                  show (true && ([u] : List Int).all _) = true
                  rw [List.all_cons, decide_eq_true h1]
                  rfl
                · refine iteNT (fun z => h1 (V.int.inj z)) (qb (q H4 (E3.trans e4)) ?_)
                  unfold onesB
                  rw [List.all_eq_false]
                  exact ⟨u, List.mem_of_getElem? hu, by rw [decide_eq_false h1]; exact Bool.false_ne_true⟩
              refine ⟨_, rfl, _, rfl, b, _, 2, _, rfl, rfl, SqT.of (E3 _ _ b1), rfl, true, true, a, qp, rfl, ⟨_, SqT.of (E3 _ _ ha)⟩, ⟨_, SqT.of (E3 _ _ b3)⟩, comp_zip (xs := ns.map V.int) (ys := ps) (by rw [List.length_map, PySem.sizeLine_eq]; omega) (fun D j σ' H' zs => (∃ v1 v2, σ' = [v1, v2, some (.int u)]) ∧ zs = (wL ns pcs u j).map V.int ∧ Ext H3 H' ∧ H' D = some (.lst zs) ∧ H3 D = none) ?_ ?_ ?_ ?_⟩
              · intro D hD
                exact ⟨⟨_, _, rfl⟩, rfl, (Ext.refl _).new hD _, upd_same, hD⟩
              · rintro D j σ' H' zs hD ⟨_, rfl, e, h2, _⟩
                exact ⟨SqT.of ((E3.trans e) _ _ ha), SqT.of ((E3.trans e) _ _ b3), h2, by rw [List.length_map]; exact wL_len _ _ _ _⟩
              · rintro D j σ' H' zs x y tt hD hxx hyy htt ⟨⟨v1, v2, rfl⟩, rfl, e, h2, hn2⟩
                obtain ⟨z, hz, rfl⟩ : ∃ z : Int, ns[j]? = some z ∧ V.int z = x := by
                  rw [List.getElem?_map] at hxx
                  cases hq : ns[j]? with
                  | none => rw [hq] at hxx; cases hxx
                  | some z => rw [hq] at hxx; cases hxx; exact ⟨z, rfl, rfl⟩
                obtain ⟨pc, hpc, pa, pq, rfl, c1, c2⟩ := b4.at hyy
                have e' := e.new htt (.tup [.int z, .ref pa])
                have h2' : (upd H' tt (.tup [.int z, .ref pa])) D = some (.lst ((wL ns pcs u j).map V.int)) := by rw [upd_ne (ne_of_none h2 htt)]; exact h2
                refine ⟨tt, _, rfl, SqT.of upd_same, rfl, _, _, rfl, _, _, rfl, rfl, ?_⟩
                generalize upd H' tt (.tup [.int z, .ref pa]) = H5 at e' h2' ⊢
                have E5 := E3.trans e'
                refine ⟨_, rfl, _, rfl, pa, _, 0, _, rfl, rfl, SqT.of (E5 _ _ c1), rfl, pq, _, rfl, .inr (SqT.of (E5 _ _ c2)), rfl, flat_ints _, _, rfl, ?_⟩
                show if inV (.int u) (pc.1.map V.int) = true then _ else _
                rw [inV_ints]
                refine ite2 (fun hy => ?_) (fun hy => ?_)
                · refine ⟨_, rfl, h2', ⟨_, _, rfl⟩, ?_, e'.updNew hn2 _, upd_same, hn2⟩
                  rw [wL_succ hz hpc, if_pos hy, List.map_append]
                  rfl
                · refine ⟨⟨_, _, rfl⟩, ?_, e', h2', hn2⟩
                  rw [wL_succ hz hpc, if_neg hy, List.append_nil]
              · rintro D4 σ' H4 zs hD ⟨_, rfl, e4, h4, _⟩
                rw [List.length_map, show min ns.length ps.length = pcs.length by omega] at h4
                exact ⟨D4, _, rfl, SqL.of h4, rfl, _, rfl, rest D4 H4 h4 e4⟩
            · rintro σ H3 ⟨⟨v2, rfl⟩, e3, hall3⟩
              rw [List.length_map, List.take_length] at hall3
              refine qb (q H3 (e2.trans e3)) ?_
              unfold onesB
              exact hall3
      · refine iteNT (fun z => hle (by have := V.int.inj z; omega)) (iteT (qb (q H (Ext.refl H)) ?_))
        rw [decide_eq_false (show ¬ os.length = pcs.length by omega), Bool.false_and]
abbrev nRight : List Str := ["box", "thing", "must"]
theorem scRight : FnScope nRight ["box", "thing"] (defScope sRight) := ⟨rfl, rfl, rfl, by decide +kernel, rfl, by decide +kernel, by decide +kernel⟩
def rigL (T : Txt mg) (CW : Can P w K mg base "_law_whole" 1 fW fdW ["found"] spWh) (CM : Can P w K mg base "_law_musts" 1 fM fdM ["box"] spMusts) (hr : Room 1 (XOf nRight "_law_wholes_right" sRight P w K mg base f cdv A outer s H0 E).A) : { t : TS // JSs (XOf nRight "_law_wholes_right" sRight P w K mg base f cdv A outer s H0 E) (loopOf ((defBody sRight).getD 1 (.Pass ⟨0, 0, 0, 0⟩))) t } :=
  have nd := scRight.nd
  ⟨_, (jss_one (js_if (jt_cmpR op_ne (je_callB (call_sumL rfl) (gl_d (by decide +kernel)) T.sum (by decide +kernel) (ja_cons (je_comp (m := [none, some 2, some 0, some 1]) (Nc := ["k", "must", "box", "thing"]) rfl (ji_range1 (gl_d (by decide +kernel)) T.range (ja_cons (je_callB call_len_seq (gl_d (by decide +kernel)) T.len (by decide +kernel) (ja_cons (jv 1 rfl (vis_c (by decide +kernel))) ja_nil se_name) se_name) ja_nil se_call) se_call) rfl (by decide +kernel) (by decide +kernel) (free_ok (psc := defScope sRight) (by decide +kernel)) (freeAt_ok (N := nRight) rfl rfl (by decide +kernel)) (fun cl C fp s H => jg_name (i := 0) (show (["k", "must", "box", "thing"] : List Str).Nodup by decide +kernel) rfl (loc_b (by decide +kernel))) (fun cl C fp s H => jts_one (jt_cmpR op_in_b (jv 1 rfl (vis_bf (by decide +kernel))) (je_ix ix_tup_b (je_ix ix_tup_b (je_ix ix_tup_b (jv 2 rfl (vis_bf (by decide +kernel))) (je_int) px_const) (jv 0 rfl (vis_bl (by decide +kernel))) px_name) (je_int) px_const) nm_sub)) (fun cl C fp s H => (je_ix ix_tup_b (jv 3 rfl (vis_bf (by decide +kernel))) (jv 0 rfl (vis_bl (by decide +kernel))) px_name)) fo_call) ja_nil se_comp) se_comp) (je_int) (nomark _)) (jss_one (js_ret (je_bl))) jss_nil))⟩
def rigA (T : Txt mg) (CW : Can P w K mg base "_law_whole" 1 fW fdW ["found"] spWh) (CM : Can P w K mg base "_law_musts" 1 fM fdM ["box"] spMusts) (hr : Room 1 (XOf nRight "_law_wholes_right" sRight P w K mg base f cdv A outer s H0 E).A) : { t : TS // JSs (XOf nRight "_law_wholes_right" sRight P w K mg base f cdv A outer s H0 E) (defBody sRight) t } :=
  have nd := scRight.nd
  ⟨_, (jss_cons (js_if (jt_w (jw_or (jt_not (jt_val (je_callB call_isinst (gl_d (by decide +kernel)) T.isinstance (by decide +kernel) (ja_cons (jv 1 rfl (vis_c (by decide +kernel))) (ja_cons (je_bltn (v := .ty "tuple") (gl_d (by decide +kernel)) T.tuple (by decide +kernel) rfl) ja_nil se_name) se_name) se_name) tv_call)) (jw_or (jt_cmpR op_ne (je_callB call_len_seq (gl_d (by decide +kernel)) T.len (by decide +kernel) (ja_cons (jv 1 rfl (vis_c (by decide +kernel))) ja_nil se_name) se_name) (je_callB call_len_seq (gl_d (by decide +kernel)) T.len (by decide +kernel) (ja_cons (je_ix ix_tup (jv 0 rfl (vis_c (by decide +kernel))) (je_int) px_const) ja_nil se_sub) se_sub) (nomark _)) (jw_or1 (jt_not (jt_val (je_callB (call_allL rfl) (gl_d (by decide +kernel)) T.all (by decide +kernel) (ja_cons (je_comp (m := [none]) (Nc := ["one"]) rfl (ji_tup (jv 1 rfl (vis_c (by decide +kernel)))) rfl (by decide +kernel) (by decide +kernel) (free_ok (psc := defScope sRight) (by decide +kernel)) (freeAt_ok (N := nRight) rfl rfl (by decide +kernel)) (fun cl C fp s H => jg_name (i := 0) (show (["one"] : List Str).Nodup by decide +kernel) rfl (loc_b (by decide +kernel))) (fun cl C fp s H => jts_nil) (fun cl C fp s H => (CW.je (hr.mono (by decide)) (gl_b (by decide +kernel)) (ja_cons (jv 0 rfl (vis_bl (by decide +kernel))) ja_nil se_name) se_name)) fo_name) ja_nil se_comp) se_comp) tv_call)))))) (jss_one (js_ret (je_bl))) jss_nil) (jss_cons (js_for PassesOwn.never rfl (ji_list (CM.je hr (gl_d (by decide +kernel)) (ja_cons (jv 0 rfl (vis_c (by decide +kernel))) ja_nil se_name) se_name)) (jg_name (i := 2) nd rfl (loc_c (by decide +kernel))) (rigL T CW CM hr).2 fo_call) (jss_one (js_ret (je_bl)))))⟩
theorem ok_right {fd : FuncData} (F : Fun K "_law_wholes_right" "_law_wholes_right" sRight f fd) (T : Txt mg) (CW : Can P w K mg base "_law_whole" 1 fW fdW ["found"] spWh) (CM : Can P w K mg base "_law_musts" 1 fM fdM ["box"] spMusts) : FnOk P w K mg base CX0 2 f fd ["box", "thing"] spWho := by
  refine F.ok scRight (fun vs H Q E h => ?_) (fun cdv A outer s H vs Q E hr h => ?_)
  · obtain ⟨_, _, _, _, _, _, rfl, _⟩ := h
    rfl
  · obtain ⟨b, v, o, w, ms, pcs, rfl, hB, g, hA, q⟩ := h
    obtain ⟨qm, qp, ps, b1, b2, b3, b4⟩ := hB.ex
    have pl := b4.len
    have gl := g.pl
    have w0 := g.w0
    have w1 := g.w1
    obtain ⟨t, ty, kt, _⟩ := hA.ty K
    refine ⟨_, (rigA T CW CM hr).2.h, ?_⟩
    refine ⟨_, rfl, _, _, _, _, rfl, ty, kt, _, rfl, ?_⟩
    cases ht : isTup o with
    | false => exact iteT (iteT (qb (q H (Ext.refl H)) (wh_tup ht)))
    | true =>
      refine iteF ?_
      obtain ⟨os, a, vs, rfl, rfl, ha, h100, hx⟩ := hA.tupOf ht
      have hl := hx.len
      have hn : vs.length < sizeLine := by rw [PySem.sizeLine_eq]; omega
      have q : ∀ H', Ext H H' → Q (.bl (decide (os.length = pcs.length) && (os.all isInt && onesB w ms pcs (os.map valO)))) H' := q
      refine ⟨_, rfl, a, _, rfl, .inr (SqT.of ha), _, rfl, b, _, 2, _, rfl, rfl, SqT.of b1, rfl, qp, _, rfl, .inr (SqT.of b3), rfl, _, rfl, ?_⟩
      by_cases hle : vs.length = ps.length
      · refine iteNS (by rw [hle]) ?_
        rw [decide_eq_true (show os.length = pcs.length by omega), Bool.true_and] at q
        refine ⟨_, rfl, a, rfl, ⟨_, SqT.of ha⟩, comp_tupB (F := isInt) ha hx hn (fun σ' => ∃ v, σ' = [v]) ⟨_, rfl⟩ ?_ ?_⟩
        · rintro σ' H' v o R S ⟨u, rfl⟩ e hA k
          dsimp only [gName, tTrue]
          rw [if_pos rfl]
          exact ⟨_, rfl, v, o, rfl, hA, k _ H' ⟨_, rfl⟩ (Ext.refl _)⟩
        · intro D H1 e1 hD
          refine ⟨D, _, rfl, SqL.of hD, _, rfl, ?_⟩
          have eall : (os.map isInt).all id = os.all isInt := by rw [List.all_map]; rfl
          rw [eall]
          cases hall : os.all isInt with
          | false =>
            rw [hall, Bool.false_and] at q
            exact iteT (q H1 e1)
          | true =>
            rw [hall, Bool.true_and] at q
            refine iteF ?_
            have evs := hx.intsW hall
            generalize hns : os.map valO = ns at q evs
            subst evs
            rw [List.length_map] at hle
            refine ⟨_, rfl, b, qm, _, w, ms, rfl, e1 _ _ b1, e1 _ _ b2, w0, by omega, fun l hl2 => ?_⟩
            have e2 := e1.new hl2 (.lst ((mus ms w.toNat).map V.int))
            have hl3 : (upd H1 l (.lst ((mus ms w.toNat).map V.int))) l = some (.lst ((mus ms w.toNat).map V.int)) := upd_same
            generalize upd H1 l (.lst ((mus ms w.toNat).map V.int)) = H2 at e2 hl3 ⊢
            refine ⟨l, rfl, ⟨_, SqL.of hl3⟩, for_list (xs := (mus ms w.toNat).map V.int) (fun i σ H' => (∃ v2, σ = [some (.ref b), some (.ref a), v2]) ∧ Ext H2 H' ∧ ((mus ms w.toNat).take i).all (fun t => decide ((wL ns pcs t pcs.length).sum = 1)) = true) ⟨⟨_, rfl⟩, Ext.refl _, rfl⟩ (fun i σ H' _ ⟨_, e, _⟩ => SqL.of (e _ _ hl3)) ?_ ?_⟩
            · rintro i x σ H3 hx3 ⟨⟨v2, rfl⟩, e3, hall3⟩
              obtain ⟨u, hu, rfl⟩ : ∃ z : Int, (mus ms w.toNat)[i]? = some z ∧ V.int z = x := by
                rw [List.getElem?_map] at hx3
                cases hq : (mus ms w.toNat)[i]? with
                | none => rw [hq] at hx3; cases hx3
                | some z => rw [hq] at hx3; cases hx3; exact ⟨z, rfl, rfl⟩
              have E3 := e2.trans e3
              have rest : ∀ (D4 : Addr) (H4 : Hp), H4 D4 = some (.lst ((wL ns pcs u pcs.length).map V.int)) → Ext H3 H4 → (if (!decide (V.int (wL ns pcs u pcs.length).sum = V.int 1)) = true then Q (.bl false) H4 else (∃ v2, ([some (.ref b), some (.ref a), some (.int u)] : St) = [some (.ref b), some (.ref a), v2]) ∧ Ext H2 H4 ∧ ((mus ms w.toNat).take (i + 1)).all (fun t => decide ((wL ns pcs t pcs.length).sum = 1)) = true) := fun D4 H4 h4 e4 => by
                by_cases h1 : (wL ns pcs u pcs.length).sum = 1
                · refine iteNS (by rw [h1]) ⟨⟨_, rfl⟩, e3.trans e4, ?_⟩
                  rw [List.take_add_one, hu, List.all_append, hall3]
                  show (true && ([u] : List Int).all _) = true
                  rw [List.all_cons, decide_eq_true h1]
                  rfl
                · refine iteNT (fun z => h1 (V.int.inj z)) (qb (q H4 (E3.trans e4)) ?_)
                  unfold onesB
                  rw [List.all_eq_false]
                  exact ⟨u, List.mem_of_getElem? hu, by rw [decide_eq_false h1]; exact Bool.false_ne_true⟩
              refine ⟨_, rfl, a, _, rfl, .inr (SqT.of (E3 _ _ ha)), _, rfl, by omega, by omega, comp_rng (n := (((ns.map V.int).length : Int)).toNat) (by rw [List.length_map, PySem.sizeLine_eq]; omega) (fun D j σ' H' zs => (∃ v, σ' = [v, some (.int u), some (.ref b), some (.ref a)]) ∧ zs = (wL ns pcs u j).map V.int ∧ Ext H3 H' ∧ H' D = some (.lst zs) ∧ H3 D = none) ?_ ?_ ?_ ?_⟩
              · intro D hD
                exact ⟨⟨_, rfl⟩, rfl, (Ext.refl _).new hD _, upd_same, hD⟩
              · rintro D j σ' H' zs hD hj ⟨_, rfl, e, h2, _⟩
                exact ⟨h2, by rw [List.length_map]; exact wL_len _ _ _ _⟩
              · rintro D j σ' H' zs hD hj ⟨⟨v, rfl⟩, rfl, e, h2, hn2⟩
                have hjn : j < ns.length := by rw [List.length_map] at hj; omega
                have hz : ns[j]? = some ns[j] := List.getElem?_eq_getElem hjn
                have hy1 : ps[j]? = some ps[j] := List.getElem?_eq_getElem (by omega)
                obtain ⟨pc, hpc, pa, pq, hpe, c1, c2⟩ := b4.at hy1
                have at1 : atI ps (0 + (j : Int)) = some (.ref pa) := by rw [Int.zero_add]; exact atI_nat (by rw [hy1, hpe])
                have at2 : atI (ns.map V.int) (0 + (j : Int)) = some (.int ns[j]) := by rw [Int.zero_add]; exact atI_nat (by rw [List.getElem?_map, hz]; rfl)
                have E5 := E3.trans e
                refine ⟨_, rfl, _, rfl, b, _, 2, _, rfl, rfl, SqT.of (E5 _ _ b1), rfl, _, rfl, qp, _, _, _, rfl, rfl, SqT.of (E5 _ _ b3), at1, pa, _, 0, _, rfl, rfl, SqT.of (E5 _ _ c1), rfl, pq, _, rfl, .inr (SqT.of (E5 _ _ c2)), rfl, flat_ints _, _, rfl, ?_⟩
                show if inV (.int u) (pc.1.map V.int) = true then _ else _
                rw [inV_ints]
                refine ite2 (fun hy => ?_) (fun hy => ?_)
                · refine ⟨_, rfl, _, rfl, a, _, _, _, rfl, rfl, SqT.of (E5 _ _ ha), at2, h2, ⟨_, rfl⟩, ?_, e.updNew hn2 _, upd_same, hn2⟩
                  rw [wL_succ hz hpc, if_pos hy, List.map_append]
                  rfl
                · refine ⟨⟨_, rfl⟩, ?_, e, h2, hn2⟩
                  rw [wL_succ hz hpc, if_neg hy, List.append_nil]
              · rintro D4 σ' H4 zs hD ⟨_, rfl, e4, h4, _⟩
                rw [show (((ns.map V.int).length : Int)).toNat = pcs.length by rw [List.length_map]; omega] at h4
                exact ⟨D4, _, rfl, SqL.of h4, rfl, _, rfl, rest D4 H4 h4 e4⟩
            · rintro σ H3 ⟨⟨v2, rfl⟩, e3, hall3⟩
              rw [List.length_map, List.take_length] at hall3
              refine qb (q H3 (e2.trans e3)) ?_
              unfold onesB
              exact hall3
      · refine iteNT (fun z => hle (by have := V.int.inj z; omega)) (iteT (qb (q H (Ext.refl H)) ?_))
        rw [decide_eq_false (show ¬ os.length = pcs.length by omega), Bool.false_and]
end
end Eo
end
section
namespace Eo
open PySem L2
/-! what lacks, and the dict of it -/
def thL (lk : Int → Int) (n : Nat) (L : Int) : List Int := ((List.range n).filter fun (t : Nat) => decide (lk t = L)).map fun (t : Nat) => (t : Int)
theorem thL_succ (lk : Int → Int) (n : Nat) (L : Int) : thL lk (n + 1) L = thL lk n L ++ (if lk n = L then [(n : Int)] else []) := by
  unfold thL
  rw [List.range_succ, List.filter_append, List.map_append]
  congr 1
  rw [List.filter_cons]
  by_cases h : lk n = L
  · rw [if_pos (decide_eq_true h), if_pos h]
    rfl
  · rw [if_neg (fun z => h (of_decide_eq_true z)), if_neg h]
    rfl
theorem mem_thL {lk : Int → Int} {n : Nat} {L t : Int} : t ∈ thL lk n L ↔ 0 ≤ t ∧ t < n ∧ lk t = L := by
  unfold thL
  rw [List.mem_map]
  constructor
  · rintro ⟨u, hu, rfl⟩
    obtain ⟨h1, h2⟩ := List.mem_filter.mp hu
    have := List.mem_range.mp h1
    exact ⟨by omega, by omega, of_decide_eq_true h2⟩
  · rintro ⟨h0, h1, h2⟩
    have e : ((t.toNat : Nat) : Int) = t := by omega
    exact ⟨t.toNat, List.mem_filter.mpr ⟨List.mem_range.mpr (by omega), decide_eq_true (by rw [e]; exact h2)⟩, e⟩
theorem thL_rise (lk : Int → Int) (n : Nat) (L : Int) : (thL lk n L).Pairwise (· < ·) := by
  unfold thL
  rw [List.pairwise_map]
  refine List.Pairwise.imp ?_ (List.Pairwise.filter _ (List.pairwise_lt_range (n := n)))
  intro a b h
  omega
theorem thL_len (lk : Int → Int) (n : Nat) (L : Int) : (thL lk n L).length ≤ n := by
  unfold thL
  rw [List.length_map]
  exact Nat.le_trans (List.length_filter_le _ _) (by rw [List.length_range]; exact Nat.le_refl _)
/-- the dict after n things -/
structure DkSt (H : Hp) (kvs : List (Key × V)) (lk : Int → Int) (n : Nat) : Prop where
  ks : ∃ ks : List Int, kvs.map (·.1) = ks.map Sum.inl ∧ ks.Nodup ∧ (∀ L, L ∈ ks ↔ ∃ t : Nat, t < n ∧ lk t = L) ∧ ks.length ≤ n
  has : ∀ L, (∃ t : Nat, t < n ∧ lk t = L) → ∃ a, valV kvs (Sum.inl L) = some (.ref a) ∧ H a = some (.tup ((thL lk n L).map V.int))
  no : ∀ L, (¬ ∃ t : Nat, t < n ∧ lk t = L) → valV kvs (Sum.inl L) = none
theorem DkSt.nil (H : Hp) (lk : Int → Int) : DkSt H [] lk 0 :=
  ⟨⟨[], rfl, List.nodup_nil, fun L => ⟨fun z => (by cases z), fun ⟨t, h, _⟩ => (by omega)⟩, Nat.le_refl _⟩, fun L ⟨t, h, _⟩ => by omega, fun L _ => rfl⟩
theorem DkSt.mono {H H' : Hp} {kvs : List (Key × V)} {lk : Int → Int} {n : Nat} (d : DkSt H kvs lk n) (t : Tups H H') : DkSt H' kvs lk n :=
  ⟨d.ks, fun L h => let ⟨a, h1, h2⟩ := d.has L h; ⟨a, h1, t _ _ h2⟩, d.no⟩
theorem putK_keys {kvs : List (Key × V)} {k : Key} (v : V) (h : k ∈ kvs.map (·.1)) : (putK kvs k v).map (·.1) = kvs.map (·.1) := by
  unfold putK
  obtain ⟨p, hp, e⟩ := List.mem_map.mp h
  rw [if_pos (List.any_eq_true.mpr ⟨p, hp, decide_eq_true e⟩), List.map_map]
  apply List.map_congr_left
  intro q _
  show (if q.1 = k then (q.1, v) else q).1 = q.1
  split <;> rfl
theorem thL_none {lk : Int → Int} {n : Nat} {L : Int} (h : ¬ ∃ t : Nat, t < n ∧ lk t = L) : thL lk n L = [] := by
  rw [List.eq_nil_iff_forall_not_mem]
  intro t ht
  obtain ⟨h0, h1, h2⟩ := mem_thL.mp ht
  exact h ⟨t.toNat, by omega, by rw [show ((t.toNat : Nat) : Int) = t by omega]; exact h2⟩
theorem DkSt.put {H H' : Hp} {kvs : List (Key × V)} {lk : Int → Int} {n : Nat} {a : Addr} (d : DkSt H kvs lk n) (t : Tups H H') (h : H' a = some (.tup ((thL lk (n + 1) (lk n)).map V.int))) : DkSt H' (putK kvs (Sum.inl (lk n)) (.ref a)) lk (n + 1) := by
  obtain ⟨ks, h1, h2, h3, h4⟩ := d.ks
  have split : ∀ L, (∃ t : Nat, t < n + 1 ∧ lk t = L) ↔ (∃ t : Nat, t < n ∧ lk t = L) ∨ lk n = L := fun L => by
    constructor
    · rintro ⟨u, hu, e⟩
      by_cases z : u = n
      · subst z; exact .inr e
      · exact .inl ⟨u, by omega, e⟩
    · rintro (⟨u, hu, e⟩ | e)
      · exact ⟨u, by omega, e⟩
      · exact ⟨n, by omega, e⟩
  refine ⟨?_, fun L hL => ?_, fun L hL => ?_⟩
  · by_cases hin : lk n ∈ ks
    · refine ⟨ks, ?_, h2, fun L => ?_, by omega⟩
      · rw [putK_keys]
        · exact h1
        · rw [h1]; exact List.mem_map_of_mem hin
      · rw [split, h3]
        constructor
        · exact fun z => .inl z
        · rintro (z | z)
          · exact z
          · rw [← h3, ← z]; exact hin
    · have hno : valV kvs (Sum.inl (lk n)) = none := d.no _ (fun z => hin ((h3 _).mpr z))
      refine ⟨ks ++ [lk n], ?_, nd_snoc h2 hin, fun L => ?_, by rw [List.length_append]; show ks.length + 1 ≤ n + 1; omega⟩
      · rw [putK_new _ hno, List.map_append, h1, List.map_append]
        rfl
      · rw [split, List.mem_append, h3, List.mem_singleton]
        exact ⟨fun z => z.imp id Eq.symm, fun z => z.imp id Eq.symm⟩
  · rw [valV_put]
    by_cases e : L = lk n
    · subst e
      exact ⟨a, if_pos rfl, h⟩
    · rw [if_neg (fun z => e (Sum.inl.inj z))]
      obtain ⟨b, b1, b2⟩ := d.has L (((split L).mp hL).resolve_right fun z => e z.symm)
      refine ⟨b, b1, ?_⟩
      rw [thL_succ, if_neg (fun z => e z.symm), List.append_nil]
      exact t _ _ b2
  · have hn2 : ¬ lk n = L := fun z => hL ((split L).mpr (.inr z))
    rw [valV_put, if_neg (fun z => hn2 (Sum.inl.inj z).symm)]
    exact d.no L fun z => hL ((split L).mpr (.inl z))
/-! sums -/
def lackOf (ps : List (List Int)) (ns : List Int) (t : Int) : Int := 1 - (((ps.zip ns).filter fun x => decide (t ∈ x.1)).map Prod.snd).sum
/-- the sum of the numbers of the pieces of t -/
def sumT (t : Int) : List (List Int × Int) → Int
  | [] => 0
  | x :: r => (if t ∈ x.1 then x.2 else 0) + sumT t r
theorem sumT_filter (t : Int) : ∀ l : List (List Int × Int), ((l.filter fun x => decide (t ∈ x.1)).map Prod.snd).sum = sumT t l
  | [] => rfl
  | x :: r => by
    rw [List.filter_cons]
    show _ = (if t ∈ x.1 then x.2 else 0) + sumT t r
    by_cases h : t ∈ x.1
    · rw [if_pos (decide_eq_true h), if_pos h, List.map_cons, List.sum_cons, sumT_filter t r]
    · rw [if_neg (fun z => h (of_decide_eq_true z)), if_neg h, sumT_filter t r, Int.zero_add]
theorem sumT_append (t : Int) : ∀ l m : List (List Int × Int), sumT t (l ++ m) = sumT t l + sumT t m
  | [], m => by show sumT t m = 0 + sumT t m; omega
  | x :: r, m => by
    show (if t ∈ x.1 then x.2 else 0) + sumT t (r ++ m) = (if t ∈ x.1 then x.2 else 0) + sumT t r + sumT t m
    rw [sumT_append t r m]
    omega
theorem sumT_perm (t : Int) {l m : List (List Int × Int)} (h : l.Perm m) : sumT t l = sumT t m := by
  induction h with
  | nil => rfl
  | cons x _ ih => show _ + _ = _ + _; rw [ih]
  | swap x y l => show _ + (_ + _) = _ + (_ + _); omega
  | trans _ _ a b => exact a.trans b
/-- the last pieces make up what lacks -/
theorem sumT_lacks (lk : Int → Int) (n : Nat) (t : Int) (h0 : 0 ≤ t) (h1 : t < n) : ∀ Ls : List Int, Ls.Nodup → sumT t (Ls.map fun L => (thL lk n L, L)) = if lk t ∈ Ls then lk t else 0
  | [], _ => by rw [if_neg (fun z => by cases z)]; rfl
  | L :: Ls, hn => by
    obtain ⟨a, b⟩ := List.nodup_cons.mp hn
    show (if t ∈ thL lk n L then L else 0) + sumT t (Ls.map fun L => (thL lk n L, L)) = _
    rw [sumT_lacks lk n t h0 h1 Ls b]
    by_cases e : lk t = L
    · rw [if_pos (mem_thL.mpr ⟨h0, h1, e⟩), if_neg (by rw [e]; exact a), if_pos (by rw [e]; exact List.mem_cons_self), e]
      omega
    · rw [if_neg (fun z => e (mem_thL.mp z).2.2), Int.zero_add]
      by_cases i : lk t ∈ Ls
      · rw [if_pos i, if_pos (List.mem_cons_of_mem _ i)]
      · rw [if_neg i, if_neg (fun z => by rcases List.mem_cons.mp z with z | z; exact e z; exact i z)]
theorem planted_sum {ps : List (List Int)} {ns Ls : List Int} {n : Nat} {t : Int} (h0 : 0 ≤ t) (h1 : t < n) (hn : Ls.Nodup) (hm : ∀ L, L ∈ Ls ↔ L ≠ 0 ∧ ∃ u : Nat, u < n ∧ lackOf ps ns u = L) :
    sumT t (ps.zip ns ++ Ls.map fun L => (thL (lackOf ps ns) n L, L)) = 1 := by
  rw [sumT_append, sumT_lacks (lackOf ps ns) n t h0 h1 Ls hn]
  have e : lackOf ps ns t = 1 - sumT t (ps.zip ns) := by unfold lackOf; rw [sumT_filter]
  by_cases z : lackOf ps ns t = 0
  · rw [if_neg (fun q => ((hm _).mp q).1 z)]
    omega
  · rw [if_pos ((hm _).mpr ⟨z, t.toNat, by omega, by rw [show ((t.toNat : Nat) : Int) = t by omega]⟩)]
    omega
theorem wL_sumT (t : Int) : ∀ (l : List (List Int × Int)), (((l.map Prod.snd).zip (l.map fun x => (x.1, (0 : Int)))).filter fun x => decide (t ∈ x.2.1)).map Prod.fst = (l.filter fun x => decide (t ∈ x.1)).map Prod.snd
  | [] => rfl
  | x :: r => by
    rw [List.map_cons, List.map_cons, List.zip_cons_cons, List.filter_cons, List.filter_cons]
    by_cases h : t ∈ x.1
    · rw [if_pos (decide_eq_true h), if_pos (decide_eq_true h), List.map_cons, List.map_cons, wL_sumT t r]
    · rw [if_neg (fun z => h (of_decide_eq_true z)), if_neg (fun z => h (of_decide_eq_true z)), wL_sumT t r]
/-- the numbers of the pieces in a drawn order come to 1 for each thing -/
theorem ordered_sum {l m : List (List Int × Int)} {t : Int} (h : m.Perm l) (h1 : sumT t l = 1) : (wL (m.map Prod.snd) (m.map fun x => (x.1, (0 : Int))) t m.length).sum = 1 := by
  unfold wL
  rw [List.take_of_length_le (by rw [List.length_zip, List.length_map, List.length_map]; omega), wL_sumT, sumT_filter, sumT_perm t h, h1]
end Eo
end
section
namespace L2
open PySem
theorem js_setN {X : Cx} {e : Expr} {te : TE} {x : Str} {pos : Pos} {i : Nat} {pos' : Pos} (hN : X.N.Nodup) (hi : X.N[i]? = some x) (hx : Loc1 X x) (he : JE X e te) (hs : swapsWith e (some (.Name x pos')) pos.line X.env = pure false) : JS X (.Assign [.Name x pos'] e pos) (tAsg te (gName i)) := ⟨ps_set hN hi hx.a he.h hs hx.b⟩
theorem sw_dict {ks : List (Option Expr)} {vs : List Expr} {pos : Pos} {o : Option Expr} : SwOk (.Dict ks vs pos) o := ⟨fun _ _ => rfl⟩
end L2
namespace Eo
open PySem L2
def LtAt (H : Hp) (v : V) (ts : List Int) : Prop := ∃ q, v = .ref q ∧ H q = some (.tup (ts.map V.int))
def LtsAt (H : Hp) : List V → List (List Int) → Prop
  | [], [] => True
  | v :: vs, p :: ps => LtAt H v p ∧ LtsAt H vs ps
  | _, _ => False
theorem LtsAt.mono {H H' : Hp} (t : Tups H H') : ∀ {vs : List V} {ps : List (List Int)}, LtsAt H vs ps → LtsAt H' vs ps
  | [], [], _ => trivial
  | v :: vs, p :: ps, h => ⟨let ⟨q, e, h1⟩ := h.1; ⟨q, e, t _ _ h1⟩, LtsAt.mono t h.2⟩
  | [], _ :: _, h => h.elim
  | _ :: _, [], h => h.elim
theorem LtsAt.snoc {H : Hp} {v : V} {p : List Int} (hv : LtAt H v p) : ∀ {vs : List V} {ps : List (List Int)}, LtsAt H vs ps → LtsAt H (vs ++ [v]) (ps ++ [p])
  | [], [], _ => ⟨hv, trivial⟩
  | x :: vs, q :: ps, h => ⟨h.1, LtsAt.snoc hv h.2⟩
  | [], _ :: _, h => h.elim
  | _ :: _, [], h => h.elim
theorem LtsAt.len {H : Hp} : ∀ {vs : List V} {ps : List (List Int)}, LtsAt H vs ps → vs.length = ps.length
  | [], [], _ => rfl
  | x :: vs, q :: ps, h => congrArg (· + 1) (LtsAt.len h.2)
  | [], _ :: _, h => h.elim
  | _ :: _, [], h => h.elim
theorem LtsAt.at {H : Hp} : ∀ {vs : List V} {ps : List (List Int)}, LtsAt H vs ps → ∀ {i : Nat} {v : V}, vs[i]? = some v → ∃ pc, ps[i]? = some pc ∧ LtAt H v pc
  | [], [], _, i, v, e => by cases e
  | x :: vs, p :: ps, h, 0, v, e => by cases e; exact ⟨p, rfl, h.1⟩
  | x :: vs, p :: ps, h, i + 1, v, e => LtsAt.at h.2 (i := i) e
  | [], _ :: _, h, _, _, _ => h.elim
  | _ :: _, [], h, _, _, _ => h.elim
/-- pot, pieces, numbers as they stand -/
structure PSt (H H' : Hp) (p pl nl : Addr) (vs : List V) (ps : List (List Int)) (ns : List Int) : Prop where
  pot : ∃ N : Int, 0 ≤ N ∧ H' p = some (.lst [.int N])
  pcs : H' pl = some (.lst vs)
  lts : LtsAt H' vs ps
  nums : H' nl = some (.lst (ns.map V.int))
  kp : Keep H H' p
/-- the places of the lists: new, and apart -/
structure PAp (H : Hp) (p pl nl : Addr) : Prop where
  h : ∃ o, H p = some o
  fpl : H pl = none
  fnl : H nl = none
  ne : pl ≠ nl
theorem PAp.pp {H : Hp} {p pl nl : Addr} (a : PAp H p pl nl) : pl ≠ p ∧ nl ≠ p := by
  obtain ⟨o, h⟩ := a.h
  exact ⟨fun z => (by have := a.fpl; rw [z, h] at this; cases this), fun z => (by have := a.fnl; rw [z, h] at this; cases this)⟩
theorem PSt.ext {H H1 H2 : Hp} {p pl nl : Addr} {vs : List V} {ps : List (List Int)} {ns : List Int} (S : PSt H H1 p pl nl vs ps ns) (e : Ext H1 H2) : PSt H H2 p pl nl vs ps ns :=
  ⟨let ⟨N, a, b⟩ := S.pot; ⟨N, a, e _ _ b⟩, e _ _ S.pcs, S.lts.mono e.tups, e _ _ S.nums, fun c u h n => e _ _ (S.kp c u h n)⟩
/-- a store at an object d that is no tuple and new since H -/
theorem PSt.upd {H H1 : Hp} {p pl nl d : Addr} {vs : List V} {ps : List (List Int)} {ns : List Int} (S : PSt H H1 p pl nl vs ps ns) (ap : PAp H p pl nl) (hd : H d = none) (d1 : d ≠ pl) (d2 : d ≠ nl) (ht : ∀ xs, H1 d ≠ some (.tup xs)) (o : HO) : PSt H (L2.upd H1 d o) p pl nl vs ps ns := by
  obtain ⟨u, hu⟩ := ap.h
  have dp : p ≠ d := fun z => by rw [z, hd] at hu; cases hu
  refine ⟨?_, by rw [upd_ne (Ne.symm d1)]; exact S.pcs, S.lts.mono fun b xs h => ?_, by rw [upd_ne (Ne.symm d2)]; exact S.nums, fun c u h n => ?_⟩
  · obtain ⟨N, a, b⟩ := S.pot
    exact ⟨N, a, by rw [upd_ne dp]; exact b⟩
  · rw [upd_ne (fun z => ht xs (by rw [← z]; exact h))]
    exact h
  · rw [upd_ne (fun z => by rw [z, hd] at h; cases h)]
    exact S.kp c u h n
section
variable {P : Program} {w : World} {K : PySem.W.Frag} {mg : Str → Option Value} {base : Heap}
variable {f fT fL : Addr} {fdT fdL : FuncData} {cdv : Value} {A : Around} {outer : List Env} {s : Shared} {H0 : Hp} {E : XK}
abbrev nPlanted : List Str := ["pot", "most_things", "most_pieces", "wide", "pieces", "numbers", "lacks", "thing", "lack", "order", "k"]
theorem scPlanted : FnScope nPlanted ["pot", "most_things", "most_pieces"] (defScope sPlanted) := ⟨rfl, rfl, rfl, by decide +kernel, rfl, by decide +kernel, by decide +kernel⟩
abbrev XPl (P : Program) (w : World) (K : PySem.W.Frag) (mg : Str → Option Value) (base : Heap) (f : Addr) (cdv : Value) (A : Around) (outer : List Env) (s : Shared) (H : Hp) (E : XK) : Cx := XOf nPlanted "_law_planted" sPlanted P w K mg base f cdv A outer s H E
abbrev plBody (i : Nat) : List Stmt := loopOf ((defBody sPlanted).getD i (.Pass ⟨0, 0, 0, 0⟩))
def pl4 (T : Txt mg) (CT : Can P w K mg base "_law_take" 1 fT fdT ["pot", "wide"] spTake) (CL : Can P w K mg base "_law_lot" 2 fL fdL ["pot", "wide"] spLot) (hr : Room 2 (XPl P w K mg base f cdv A outer s H0 E).A) : { t : TS // JSs (XPl P w K mg base f cdv A outer s H0 E) (plBody 4) t } :=
  have nd := scPlanted.nd
  ⟨_, (jss_cons (js_set (i := 8) nd rfl (loc_l (by decide +kernel)) (je_op op_sub (je_int) (je_callB (call_sumL rfl) (gl_d (by decide +kernel)) T.sum (by decide +kernel) (ja_cons (je_comp (m := [none, none, some 7]) (Nc := ["piece", "number", "thing"]) rfl (ji_zip (gl_d (by decide +kernel)) T.zip (ja_cons (jv 4 rfl (vis_c (by decide +kernel))) (ja_cons (jv 5 rfl (vis_c (by decide +kernel))) ja_nil se_name) se_name) se_name) rfl (by decide +kernel) (by decide +kernel) (free_ok (psc := defScope sPlanted) (by decide +kernel)) (freeAt_ok (N := nPlanted) rfl rfl (by decide +kernel)) (fun cl C fp s H => jg_pair_b (i := 0) (j := 1) rfl (show (["piece", "number", "thing"] : List Str).Nodup by decide +kernel) rfl rfl (by decide +kernel) (by decide +kernel)) (fun cl C fp s H => jts_one (jt_cmpR op_in_b (jv 2 rfl (vis_bf (by decide +kernel))) (jv 0 rfl (vis_bl (by decide +kernel))) nm_name)) (fun cl C fp s H => (jv 1 rfl (vis_bl (by decide +kernel)))) fo_call) ja_nil se_comp) se_comp)) sw_bin)
      (jss_one (js_dput (hu_of hr) (jv 6 rfl (vis_l (by decide +kernel))) (jv 8 rfl (vis_l (by decide +kernel))) (je_op op_catU (je_dget2 (hu_of hr) (jv 6 rfl (vis_l (by decide +kernel))) (jv 8 rfl (vis_l (by decide +kernel))) (je_tupU ja_nil) se_name se_tup) (je_tupU (ja_cons (jv 7 rfl (vis_c (by decide +kernel))) ja_nil se_name))) sw_bin)))⟩
def pl5 (T : Txt mg) (CT : Can P w K mg base "_law_take" 1 fT fdT ["pot", "wide"] spTake) (CL : Can P w K mg base "_law_lot" 2 fL fdL ["pot", "wide"] spLot) (hr : Room 2 (XPl P w K mg base f cdv A outer s H0 E).A) : { t : TS // JSs (XPl P w K mg base f cdv A outer s H0 E) (plBody 5) t } :=
  have nd := scPlanted.nd
  ⟨_, (jss_one (js_if (jt_cmpR op_ne (jv 8 rfl (vis_l (by decide +kernel))) (je_int) (nomark _)) (jss_cons (js_expr (je_bm PySem.F.plainAttrs_list PySem.F.slot_list_append PySem.F.type_list_append mt_append (jv 4 rfl (vis_c (by decide +kernel))) (ja_cons (je_dget (hu_of hr) (jv 6 rfl (vis_l (by decide +kernel))) (jv 8 rfl (vis_l (by decide +kernel))) px_name) ja_nil se_sub) se_sub) sw_call)
      (jss_one (js_expr (je_bm PySem.F.plainAttrs_list PySem.F.slot_list_append PySem.F.type_list_append mt_append (jv 5 rfl (vis_c (by decide +kernel))) (ja_cons (jv 8 rfl (vis_l (by decide +kernel))) ja_nil se_name) se_name) sw_call))) jss_nil))⟩
def pl7 (T : Txt mg) (CT : Can P w K mg base "_law_take" 1 fT fdT ["pot", "wide"] spTake) (CL : Can P w K mg base "_law_lot" 2 fL fdL ["pot", "wide"] spLot) (hr : Room 2 (XPl P w K mg base f cdv A outer s H0 E).A) : { t : TS // JSs (XPl P w K mg base f cdv A outer s H0 E) (plBody 7) t } :=
  have nd := scPlanted.nd
  ⟨_, (jss_one (js_expr (je_bm PySem.F.plainAttrs_list PySem.F.slot_list_insert PySem.F.type_list_insert mt_insert (jv 9 rfl (vis_l (by decide +kernel))) (ja_cons (CT.je (hr.mono (by decide)) (gl_d (by decide +kernel)) (ja_cons (jv 0 rfl (vis_c (by decide +kernel))) (ja_cons (je_op op_add (jv 10 rfl (vis_l (by decide +kernel))) (je_int)) ja_nil se_bin) se_name) se_name) (ja_cons (jv 10 rfl (vis_l (by decide +kernel))) ja_nil se_name) se_call) se_call) sw_call))⟩
def plE (T : Txt mg) (CT : Can P w K mg base "_law_take" 1 fT fdT ["pot", "wide"] spTake) (CL : Can P w K mg base "_law_lot" 2 fL fdL ["pot", "wide"] spLot) (hr : Room 2 (XPl P w K mg base f cdv A outer s H0 E).A) : { t : TS // JSs (XPl P w K mg base f cdv A outer s H0 E) ((defBody sPlanted).drop 8) t } :=
  have nd := scPlanted.nd
  ⟨_, (jss_one (js_ret (je_lstU (ja_cons (je_tupU (ja_cons (jv 3 rfl (vis_c (by decide +kernel))) (ja_cons (je_tupU ja_nil) (ja_cons (je_callTy call_tuple_of (gl_d (by decide +kernel)) T.tuple (by decide +kernel) (ja_cons (je_comp (m := [none, some 4]) (Nc := ["k", "pieces"]) rfl (ji_list (jv 9 rfl (vis_l (by decide +kernel)))) rfl (by decide +kernel) (by decide +kernel) (free_ok (psc := defScope sPlanted) (by decide +kernel)) (freeAt_ok (N := nPlanted) rfl rfl (by decide +kernel)) (fun cl C fp s H => jg_name (i := 0) (show (["k", "pieces"] : List Str).Nodup by decide +kernel) rfl (loc_b (by decide +kernel))) (fun cl C fp s H => jts_nil) (fun cl C fp s H => (je_tupU (ja_cons (je_ix ix_list_b (jv 1 rfl (vis_bf (by decide +kernel))) (jv 0 rfl (vis_bl (by decide +kernel))) px_name) (ja_cons (je_int) ja_nil se_const) se_sub))) fo_name) ja_nil se_comp) se_comp) ja_nil se_call) se_tup) se_name)) (ja_cons (je_callTy call_tuple_of (gl_d (by decide +kernel)) T.tuple (by decide +kernel) (ja_cons (je_comp (m := [none, some 5]) (Nc := ["k", "numbers"]) rfl (ji_list (jv 9 rfl (vis_l (by decide +kernel)))) rfl (by decide +kernel) (by decide +kernel) (free_ok (psc := defScope sPlanted) (by decide +kernel)) (freeAt_ok (N := nPlanted) rfl rfl (by decide +kernel)) (fun cl C fp s H => jg_name (i := 0) (show (["k", "numbers"] : List Str).Nodup by decide +kernel) rfl (loc_b (by decide +kernel))) (fun cl C fp s H => jts_nil) (fun cl C fp s H => (je_ix ix_list_b (jv 1 rfl (vis_bf (by decide +kernel))) (jv 0 rfl (vis_bl (by decide +kernel))) px_name)) fo_name) ja_nil se_comp) se_comp) ja_nil se_call) se_tup))))⟩
def plD (T : Txt mg) (CT : Can P w K mg base "_law_take" 1 fT fdT ["pot", "wide"] spTake) (CL : Can P w K mg base "_law_lot" 2 fL fdL ["pot", "wide"] spLot) (hr : Room 2 (XPl P w K mg base f cdv A outer s H0 E).A) : { t : TS // JSs (XPl P w K mg base f cdv A outer s H0 E) ((defBody sPlanted).drop 6) t } :=
  have nd := scPlanted.nd
  ⟨_, (jss_cons (js_set (i := 9) nd rfl (loc_l (by decide +kernel)) (je_lstU ja_nil) sw_lst) (jss_cons (js_for PassesOwn.never rfl (ji_range1 (gl_d (by decide +kernel)) T.range (ja_cons (je_callB call_len_seq (gl_d (by decide +kernel)) T.len (by decide +kernel) (ja_cons (jv 4 rfl (vis_c (by decide +kernel))) ja_nil se_name) se_name) ja_nil se_call) se_call) (jg_name (i := 10) nd rfl (loc_l (by decide +kernel))) (pl7 T CT CL hr).2 fo_call) (plE T CT CL hr).2))⟩
def plC (T : Txt mg) (CT : Can P w K mg base "_law_take" 1 fT fdT ["pot", "wide"] spTake) (CL : Can P w K mg base "_law_lot" 2 fL fdL ["pot", "wide"] spLot) (hr : Room 2 (XPl P w K mg base f cdv A outer s H0 E).A) : { t : TS // JSs (XPl P w K mg base f cdv A outer s H0 E) ((defBody sPlanted).drop 5) t } :=
  have nd := scPlanted.nd
  ⟨_, (jss_cons (js_for PassesOwn.never rfl (ji_list (je_callB (call_sortedD rfl) (gl_d (by decide +kernel)) T.sorted (by decide +kernel) (ja_cons (jv 6 rfl (vis_l (by decide +kernel))) ja_nil se_name) se_name)) (jg_name (i := 8) nd rfl (loc_l (by decide +kernel))) (pl5 T CT CL hr).2 fo_call) (plD T CT CL hr).2)⟩
def plB (T : Txt mg) (CT : Can P w K mg base "_law_take" 1 fT fdT ["pot", "wide"] spTake) (CL : Can P w K mg base "_law_lot" 2 fL fdL ["pot", "wide"] spLot) (hr : Room 2 (XPl P w K mg base f cdv A outer s H0 E).A) : { t : TS // JSs (XPl P w K mg base f cdv A outer s H0 E) ((defBody sPlanted).drop 3) t } :=
  have nd := scPlanted.nd
  ⟨_, (jss_cons (js_set (i := 6) nd rfl (loc_l (by decide +kernel)) (je_dict0) sw_dict) (jss_cons (js_for PassesOwn.never rfl (ji_range1 (gl_d (by decide +kernel)) T.range (ja_cons (jv 3 rfl (vis_c (by decide +kernel))) ja_nil se_name) se_name) (jg_name (i := 7) nd rfl (loc_c (by decide +kernel))) (pl4 T CT CL hr).2 fo_call) (plC T CT CL hr).2))⟩
def plA (T : Txt mg) (CT : Can P w K mg base "_law_take" 1 fT fdT ["pot", "wide"] spTake) (CL : Can P w K mg base "_law_lot" 2 fL fdL ["pot", "wide"] spLot) (hr : Room 2 (XPl P w K mg base f cdv A outer s H0 E).A) : { t : TS // JSs (XPl P w K mg base f cdv A outer s H0 E) (defBody sPlanted) t } :=
  have nd := scPlanted.nd
  ⟨_, (jss_cons (js_set (i := 3) nd rfl (loc_c (by decide +kernel)) (je_op op_add (je_int) (CT.je (hr.mono (by decide)) (gl_d (by decide +kernel)) (ja_cons (jv 0 rfl (vis_c (by decide +kernel))) (ja_cons (jv 1 rfl (vis_l (by decide +kernel))) ja_nil se_name) se_name) se_name)) sw_bin) (jss_cons (js_setN (i := 4) nd rfl (loc_c (by decide +kernel)) (je_comp (m := [none, some 0, some 3]) (Nc := ["k", "pot", "wide"]) rfl (ji_range1 (gl_d (by decide +kernel)) T.range (ja_cons (je_op op_add (je_int) (CT.je (hr.mono (by decide)) (gl_d (by decide +kernel)) (ja_cons (jv 0 rfl (vis_c (by decide +kernel))) (ja_cons (jv 2 rfl (vis_l (by decide +kernel))) ja_nil se_name) se_name) se_name)) ja_nil se_bin) se_bin) rfl (by decide +kernel) (by decide +kernel) (free_ok (psc := defScope sPlanted) (by decide +kernel)) (freeAt_ok (N := nPlanted) rfl rfl (by decide +kernel)) (fun cl C fp s H => jg_name (i := 0) (show (["k", "pot", "wide"] : List Str).Nodup by decide +kernel) rfl (loc_b (by decide +kernel))) (fun cl C fp s H => jts_nil) (fun cl C fp s H => (CL.je hr (gl_b (by decide +kernel)) (ja_cons (jv 1 rfl (vis_bf (by decide +kernel))) (ja_cons (jv 2 rfl (vis_bf (by decide +kernel))) ja_nil se_name) se_name) se_name)) fo_call) (by rfl)) (jss_cons (js_setN (i := 5) nd rfl (loc_c (by decide +kernel)) (je_comp (m := [none, some 0]) (Nc := ["piece", "pot"]) rfl (ji_list (jv 4 rfl (vis_c (by decide +kernel)))) rfl (by decide +kernel) (by decide +kernel) (free_ok (psc := defScope sPlanted) (by decide +kernel)) (freeAt_ok (N := nPlanted) rfl rfl (by decide +kernel)) (fun cl C fp s H => jg_name (i := 0) (show (["piece", "pot"] : List Str).Nodup by decide +kernel) rfl (loc_b (by decide +kernel))) (fun cl C fp s H => jts_nil) (fun cl C fp s H => (je_op op_sub (CT.je (hr.mono (by decide)) (gl_b (by decide +kernel)) (ja_cons (jv 1 rfl (vis_bf (by decide +kernel))) (ja_cons (je_int) ja_nil se_const) se_name) se_name) (je_int))) fo_name) (by rfl)) (plB T CT CL hr).2)))⟩
end
end Eo
end
section
namespace Eo
open PySem L2
def pL (ps : List (List Int)) (ns : List Int) (t : Int) (n : Nat) : List Int := (((ps.zip ns).take n).filter fun x => decide (t ∈ x.1)).map Prod.snd
theorem pL_len (ps : List (List Int)) (ns : List Int) (t : Int) (n : Nat) : (pL ps ns t n).length ≤ n := by
  unfold pL
  rw [List.length_map]
  refine Nat.le_trans (List.length_filter_le _ _) ?_
  rw [List.length_take]
  omega
theorem pL_succ {ps : List (List Int)} {ns : List Int} {t a : Int} {j : Nat} {pc : List Int} (h1 : ns[j]? = some a) (h2 : ps[j]? = some pc) : pL ps ns t (j + 1) = pL ps ns t j ++ (if decide (t ∈ pc) = true then [a] else []) := by
  unfold pL
  have e : (ps.zip ns).take (j + 1) = (ps.zip ns).take j ++ [(pc, a)] := by
    rw [List.take_add_one, show (ps.zip ns)[j]? = some (pc, a) from List.getElem?_zip_eq_some.mpr ⟨h2, h1⟩]
    rfl
  rw [e, List.filter_append, List.map_append, List.filter_cons]
  congr 1
  show List.map Prod.snd (if decide (t ∈ pc) = true then [(pc, a)] else []) = _
  split <;> rfl
theorem pL_all {ps : List (List Int)} {ns : List Int} {t : Int} {n : Nat} (h : ns.length = ps.length) (hn : n = ps.length) : 1 - (pL ps ns t n).sum = lackOf ps ns t := by
  unfold pL lackOf
  rw [List.take_of_length_le (by rw [List.length_zip]; omega)]
section
variable {P : Program} {w : World} {K : PySem.W.Frag} {mg : Str → Option Value} {base : Heap}
variable {f fT fL : Addr} {fdT fdL : FuncData} {cdv : Value} {A : Around} {outer : List Env} {s : Shared} {H0 : Hp} {E : XK}
theorem pl4_read (T : Txt mg) (CT : Can P w K mg base "_law_take" 1 fT fdT ["pot", "wide"] spTake) (CL : Can P w K mg base "_law_lot" 2 fL fdL ["pot", "wide"] spLot) (hr : Room 2 (XPl P w K mg base f cdv A outer s H0 E).A) {D : Ends} {H H1 : Hp} {p pl nl d : Addr} {vs : List V} {ps : List (List Int)} {ns : List Int} {kvs : List (Key × V)} {wi : Int} {i : Nat} {v1 v2 v8 v9 v10 : Option V}
    (ap : PAp H p pl nl) (S : PSt H H1 p pl nl vs ps ns) (hd0 : H d = none) (d1 : d ≠ pl) (d2 : d ≠ nl) (hd : H1 d = some (.dK kvs)) (dk : DkSt H1 kvs (lackOf ps ns) i) (hl : ns.length = ps.length) (h10 : ps.length ≤ 10) (i16 : i < 16)
    (nx : ∀ H' kvs' v8, PSt H H' p pl nl vs ps ns → H' d = some (.dK kvs') → DkSt H' kvs' (lackOf ps ns) (i + 1) → D.nx [some (.ref p), v1, v2, some (.int wi), some (.ref pl), some (.ref nl), some (.ref d), some (.int i), v8, v9, v10] H') :
    (pl4 T CT CL hr).1 D [some (.ref p), v1, v2, some (.int wi), some (.ref pl), some (.ref nl), some (.ref d), some (.int i), v8, v9, v10] H1 := by
  have vl := S.lts.len
  refine ⟨_, rfl, _, rfl, false, false, pl, nl, rfl, ⟨_, SqL.of S.pcs⟩, ⟨_, SqL.of S.nums⟩, comp_zip (xs := vs) (ys := ns.map V.int) (by rw [PySem.sizeLine_eq]; omega) (fun D j σ' H' zs => (∃ v1 v2, σ' = [v1, v2, some (.int i)]) ∧ zs = (pL ps ns i j).map V.int ∧ Ext H1 H' ∧ H' D = some (.lst zs) ∧ H1 D = none) ?_ ?_ ?_ ?_⟩
  · intro D hD
    exact ⟨⟨_, _, rfl⟩, rfl, (Ext.refl _).new hD _, upd_same, hD⟩
  · rintro D j σ' H' zs hD ⟨_, rfl, e, h2, _⟩
    exact ⟨SqL.of (e _ _ S.pcs), SqL.of (e _ _ S.nums), h2, by rw [List.length_map]; exact pL_len _ _ _ _⟩
  · rintro D j σ' H' zs x y tt hD hxx hyy htt ⟨⟨v1, v2, rfl⟩, rfl, e, h2, hn2⟩
    obtain ⟨z, hz, rfl⟩ : ∃ z : Int, ns[j]? = some z ∧ V.int z = y := by
      rw [List.getElem?_map] at hyy
      cases hq : ns[j]? with
      | none => rw [hq] at hyy; cases hyy
      | some z => rw [hq] at hyy; cases hyy; exact ⟨z, rfl, rfl⟩
    obtain ⟨pc, hpc, pq, rfl, c2⟩ := S.lts.at hxx
    have e' := e.new htt (.tup [.ref pq, .int z])
    have h2' : (upd H' tt (.tup [.ref pq, .int z])) D = some (.lst ((pL ps ns i j).map V.int)) := by rw [upd_ne (ne_of_none h2 htt)]; exact h2
    refine ⟨tt, _, rfl, SqT.of upd_same, rfl, _, _, rfl, _, _, rfl, rfl, ?_⟩
    generalize upd H' tt (.tup [.ref pq, .int z]) = H5 at e' h2' ⊢
    refine ⟨_, rfl, _, rfl, pq, _, rfl, .inr (SqT.of (e' _ _ c2)), rfl, flat_ints _, _, rfl, ?_⟩
    show if inV (.int i) (pc.map V.int) = true then _ else _
    rw [inV_ints]
    refine ite2 (fun hy => ?_) (fun hy => ?_)
    · refine ⟨_, rfl, h2', ⟨_, _, rfl⟩, ?_, e'.updNew hn2 _, upd_same, hn2⟩
      rw [pL_succ hz hpc, if_pos hy, List.map_append]
      rfl
    · refine ⟨⟨_, _, rfl⟩, ?_, e', h2', hn2⟩
      rw [pL_succ hz hpc, if_neg hy, List.append_nil]
  · rintro D4 σ' H4 zs hD ⟨_, rfl, e4, h4, _⟩
    rw [List.length_map, show min vs.length ns.length = ps.length by omega] at h4
    have eL : 1 - (pL ps ns i ps.length).sum = lackOf ps ns i := pL_all hl rfl
    have S4 := S.ext e4
    have hd4 := e4 _ _ hd
    have dk4 := dk.mono e4.tups
    refine ⟨D4, _, rfl, SqL.of h4, _, _, rfl, rfl, ?_⟩
    dsimp only
    rw [eL]
    refine ⟨_, rfl, d, rfl, .inl ⟨_, .inl hd4⟩, _, rfl, (by show 0 ≤ sizeLine; decide), fun r5 H5 y5 x5 => ?_⟩
    refine ⟨_, DGet.k (k := Sum.inl (lackOf ps ns i)) (x5 _ _ hd4), ?_⟩
    refine ⟨_, rfl, (by show 1 ≤ sizeLine; decide), fun r6 H6 y6 x6 => ?_⟩
    have E6 := x5.trans x6
    obtain ⟨q, hq, hq2⟩ : ∃ q, (valV kvs (Sum.inl (lackOf ps ns i))).getD (.ref r5) = .ref q ∧ H6 q = some (.tup ((thL (lackOf ps ns) i (lackOf ps ns i)).map V.int)) := by
      by_cases hin : ∃ t : Nat, t < i ∧ lackOf ps ns t = lackOf ps ns i
      · obtain ⟨a, a1, a2⟩ := dk4.has _ hin
        exact ⟨a, by rw [a1]; rfl, E6 _ _ a2⟩
      · rw [dk4.no _ hin, thL_none hin]
        exact ⟨r5, rfl, x6 _ _ y5⟩
    have tl := thL_len (lackOf ps ns) i (lackOf ps ns i)
    rw [hq]
    refine ⟨q, r6, _, _, rfl, rfl, hq2, y6, by rw [List.length_map, PySem.sizeLine_eq]; show _ + 1 ≤ _; omega, fun r7 H7 y7 x7 => ?_⟩
    have E7 := E6.trans x7
    have hd7 := E7 _ _ hd4
    obtain ⟨ks, k1, _, _, k4⟩ := dk4.ks
    have kl : kvs.length = ks.length := by
      have := congrArg List.length k1
      rwa [List.length_map, List.length_map] at this
    refine ⟨_, rfl, _, rfl, d, _, rfl, DPut.k (k := Sum.inl (lackOf ps ns i)) hd7 (by rw [PySem.sizeLine_eq]; omega), ?_⟩
    have ntup : ∀ xs, H7 d ≠ some (.tup xs) := fun xs z => by rw [hd7] at z; cases z
    refine nx _ _ _ ((S4.ext E7).upd ap hd0 d1 d2 ntup _) upd_same ((dk4.mono E7.tups).put (fun b xs h => ?_) ?_)
    · rw [upd_ne (fun z => ntup xs (by rw [← z]; exact h))]
      exact h
    · rw [upd_ne (fun z => ntup _ (by rw [← z]; exact y7)), thL_succ, if_pos rfl, List.map_append]
      exact y7
end
end Eo
end
section
namespace Eo
open PySem L2
theorem PSt.app {H H1 : Hp} {p pl nl : Addr} {vs : List V} {ps : List (List Int)} {ns t : List Int} {v : V} (S : PSt H H1 p pl nl vs ps ns) (ap : PAp H p pl nl) (hv : LtAt H1 v t) : PSt H (L2.upd H1 pl (.lst (vs ++ [v]))) p pl nl (vs ++ [v]) (ps ++ [t]) ns := by
  obtain ⟨a1, a2⟩ := ap.pp
  have tt : Tups H1 (L2.upd H1 pl (.lst (vs ++ [v]))) := fun b xs h => by
    rw [upd_ne (fun z => by rw [z, S.pcs] at h; cases h)]
    exact h
  refine ⟨?_, upd_same, LtsAt.snoc ?_ (S.lts.mono tt), by rw [upd_ne (Ne.symm ap.ne)]; exact S.nums, fun c u h n => ?_⟩
  · obtain ⟨N, b1, b2⟩ := S.pot
    exact ⟨N, b1, by rw [upd_ne (Ne.symm a1)]; exact b2⟩
  · obtain ⟨q, e, h⟩ := hv
    exact ⟨q, e, tt _ _ h⟩
  · rw [upd_ne (fun z => by rw [z, ap.fpl] at h; cases h)]
    exact S.kp c u h n
theorem PSt.num {H H1 : Hp} {p pl nl : Addr} {vs : List V} {ps : List (List Int)} {ns ms : List Int} (S : PSt H H1 p pl nl vs ps ns) (ap : PAp H p pl nl) : PSt H (L2.upd H1 nl (.lst (ms.map V.int))) p pl nl vs ps ms := by
  obtain ⟨a1, a2⟩ := ap.pp
  have tt : Tups H1 (L2.upd H1 nl (.lst (ms.map V.int))) := fun b xs h => by
    rw [upd_ne (fun z => by rw [z, S.nums] at h; cases h)]
    exact h
  refine ⟨?_, by rw [upd_ne ap.ne]; exact S.pcs, S.lts.mono tt, upd_same, fun c u h n => ?_⟩
  · obtain ⟨N, b1, b2⟩ := S.pot
    exact ⟨N, b1, by rw [upd_ne (Ne.symm a2)]; exact b2⟩
  · rw [upd_ne (fun z => by rw [z, ap.fnl] at h; cases h)]
    exact S.kp c u h n
theorem PSt.draw {H H1 : Hp} {p pl nl : Addr} {vs : List V} {ps : List (List Int)} {ns : List Int} (S : PSt H H1 p pl nl vs ps ns) (ap : PAp H p pl nl) {N : Int} (hN : 0 ≤ N) : PSt H (L2.upd H1 p (.lst [.int N])) p pl nl vs ps ns := by
  obtain ⟨a1, a2⟩ := ap.pp
  obtain ⟨M, b1, b2⟩ := S.pot
  refine ⟨⟨N, hN, upd_same⟩, by rw [upd_ne a1]; exact S.pcs, S.lts.mono fun b xs h => ?_, by rw [upd_ne a2]; exact S.nums, fun c u h n => ?_⟩
  · rw [upd_ne (fun z => by rw [z, b2] at h; cases h)]
    exact h
  · rw [upd_ne n]
    exact S.kp c u h n
theorem perm_ins {os : List Int} {n k : Nat} (h : os.Perm ((List.range n).map fun (t : Nat) => (t : Int))) : (os.take k ++ (n : Int) :: os.drop k).Perm ((List.range (n + 1)).map fun (t : Nat) => (t : Int)) := by
  refine List.perm_middle.trans ?_
  rw [List.take_append_drop, List.range_succ, List.map_append]
  exact (List.Perm.cons _ h).trans (List.perm_append_singleton _ _).symm
section
variable {P : Program} {w : World} {K : PySem.W.Frag} {mg : Str → Option Value} {base : Heap}
variable {f fT fL : Addr} {fdT fdL : FuncData} {cdv : Value} {A : Around} {outer : List Env} {s : Shared} {H0 : Hp} {E : XK}
theorem pl5_read (T : Txt mg) (CT : Can P w K mg base "_law_take" 1 fT fdT ["pot", "wide"] spTake) (CL : Can P w K mg base "_law_lot" 2 fL fdL ["pot", "wide"] spLot) (hr : Room 2 (XPl P w K mg base f cdv A outer s H0 E).A) {D : Ends} {H H1 : Hp} {p pl nl d : Addr} {vs : List V} {ps : List (List Int)} {ns : List Int} {kvs : List (Key × V)} {wi L : Int} {n : Nat} {lk : Int → Int} {v1 v2 v7 v9 v10 : Option V}
    (ap : PAp H p pl nl) (S : PSt H H1 p pl nl vs ps ns) (hd : H1 d = some (.dK kvs)) (dk : DkSt H1 kvs lk n) (hL : ∃ t : Nat, t < n ∧ lk t = L) (b1 : ps.length ≤ 100) (b2 : ns.length ≤ 100)
    (nx : ∀ H' vs', PSt H H' p pl nl vs' (if L = 0 then ps else ps ++ [thL lk n L]) (if L = 0 then ns else ns ++ [L]) → (∀ b o, H1 b = some o → b ≠ pl → b ≠ nl → H' b = some o) →
      D.nx [some (.ref p), v1, v2, some (.int wi), some (.ref pl), some (.ref nl), some (.ref d), v7, some (.int L), v9, v10] H') :
    (pl5 T CT CL hr).1 D [some (.ref p), v1, v2, some (.int wi), some (.ref pl), some (.ref nl), some (.ref d), v7, some (.int L), v9, v10] H1 := by
  have vl := S.lts.len
  refine ⟨_, rfl, rfl, _, rfl, ?_⟩
  by_cases h0 : L = 0
  · refine iteNS (by rw [h0]) ?_
    exact nx H1 vs (by rw [if_pos h0, if_pos h0]; exact S) fun b o h _ _ => h
  · refine iteNT (fun z => h0 (V.int.inj z)) ?_
    obtain ⟨a, hv, ha⟩ := dk.has L hL
    refine ⟨_, rfl, .inl ⟨rfl, _, SqL.of S.pcs⟩, _, rfl, _, rfl, d, .ref a, rfl, by rw [← hv]; exact DGet.k (k := Sum.inl L) hd, pl, vs, _, rfl, rfl, S.pcs, by rw [PySem.sizeLine_eq]; omega, ?_⟩
    have S2 := S.app ap (v := .ref a) (t := thL lk n L) ⟨a, rfl, ha⟩
    refine ⟨_, rfl, .inl ⟨rfl, _, SqL.of S2.nums⟩, _, rfl, nl, ns.map V.int, _, rfl, rfl, S2.nums, by rw [List.length_map, PySem.sizeLine_eq]; omega, ?_⟩
    have S3 := S2.num ap (ms := ns ++ [L])
    rw [List.map_append] at S3
    refine nx _ (vs ++ [.ref a]) (by rw [if_neg h0, if_neg h0]; exact S3) fun b o h n1 n2 => ?_
    rw [upd_ne n2, upd_ne n1]
    exact h
theorem pl7_read (T : Txt mg) (CT : Can P w K mg base "_law_take" 1 fT fdT ["pot", "wide"] spTake) (CL : Can P w K mg base "_law_lot" 2 fL fdL ["pot", "wide"] spLot) (hr : Room 2 (XPl P w K mg base f cdv A outer s H0 E).A) {D : Ends} {H H1 : Hp} {p pl nl ol : Addr} {vs : List V} {ps : List (List Int)} {ns os : List Int} {wi : Int} {i : Nat} {v1 v2 v6 v7 v8 : Option V}
    (ap : PAp H p pl nl) (S : PSt H H1 p pl nl vs ps ns) (ho : H1 ol = some (.lst (os.map V.int))) (o0 : H ol = none) (o1 : ol ≠ pl) (o2 : ol ≠ nl) (hi : i ≤ 100) (hp : os.Perm ((List.range i).map fun (t : Nat) => (t : Int)))
    (nx : ∀ H' (os' : List Int), PSt H H' p pl nl vs ps ns → H' ol = some (.lst (os'.map V.int)) → os'.Perm ((List.range (i + 1)).map fun (t : Nat) => (t : Int)) →
      D.nx [some (.ref p), v1, v2, some (.int wi), some (.ref pl), some (.ref nl), v6, v7, v8, some (.ref ol), some (.int i)] H') :
    (pl7 T CT CL hr).1 D [some (.ref p), v1, v2, some (.int wi), some (.ref pl), some (.ref nl), v6, v7, v8, some (.ref ol), some (.int i)] H1 := by
  obtain ⟨N, hN, hpot⟩ := S.pot
  obtain ⟨u, hu⟩ := ap.h
  have op : ol ≠ p := fun z => by rw [z, hu] at o0; cases o0
  have hlen : os.length = i := by rw [hp.length_eq, List.length_map, List.length_range]
  refine ⟨_, rfl, .inl ⟨rfl, _, SqL.of ho⟩, _, rfl, _, rfl, _, _, rfl, rfl, p, N, (i : Int) + 1, rfl, hpot, hN, by omega, by omega, fun N' r a1 a2 a3 => ?_⟩
  have S2 := S.draw ap a1
  have ho2 : (upd H1 p (.lst [.int N'])) ol = some (.lst (os.map V.int)) := by rw [upd_ne op]; exact ho
  generalize upd H1 p (.lst [.int N']) = H2 at S2 ho2 ⊢
  refine ⟨_, rfl, ol, _, r, _, rfl, rfl, ho2, a2, by rw [List.length_map]; omega, by rw [List.length_map, PySem.sizeLine_eq]; omega, ?_⟩
  have ntup : ∀ xs, H2 ol ≠ some (.tup xs) := fun xs z => by rw [ho2] at z; cases z
  refine nx _ (os.take r.toNat ++ (i : Int) :: os.drop r.toNat) (S2.upd ap o0 o1 o2 ntup _) ?_ (perm_ins hp)
  rw [upd_same, List.map_append, List.map_cons, List.map_take, List.map_drop]
end
end Eo
end
section
namespace Eo
open PySem L2
def pAt (ps : List (List Int)) (t : Int) : List Int := ps.getD t.toNat []
theorem PcsAt.snoc {H : Hp} {v : V} {p : List Int × Int} (hv : PcAt H v p) : ∀ {vs : List V} {ps : List (List Int × Int)}, PcsAt H vs ps → PcsAt H (vs ++ [v]) (ps ++ [p])
  | [], [], _ => ⟨hv, trivial⟩
  | x :: vs, q :: ps, h => ⟨h.1, PcsAt.snoc hv h.2⟩
  | [], _ :: _, h => h.elim
  | _ :: _, [], h => h.elim
/-- a box and wholes of it -/
structure PlOk (H : Hp) (b q : Addr) (wi : Int) (pcs : List (List Int × Int)) (ns : List Int) : Prop where
  box : BoxAt H b wi [] pcs
  good : Good 16 32 wi [] pcs
  nums : H q = some (.tup (ns.map V.int))
  len : ns.length = pcs.length
  pos : 0 < ns.length
  l22 : ns.length ≤ 22
  w12 : wi ≤ 12
  bnd : ∀ n ∈ ns, -100 ≤ n ∧ n ≤ 100
  sum : ∀ t : Int, 0 ≤ t → t < wi → (wL ns pcs t pcs.length).sum = 1
theorem PlOk.mono {H H' : Hp} {b q : Addr} {wi : Int} {pcs : List (List Int × Int)} {ns : List Int} (h : PlOk H b q wi pcs ns) (t : Tups H H') : PlOk H' b q wi pcs ns :=
  ⟨h.box.mono t, h.good, t _ _ h.nums, h.len, h.pos, h.l22, h.w12, h.bnd, h.sum⟩
theorem zip_range {ps : List (List Int)} {ns : List Int} (hl : ns.length = ps.length) : ((List.range ps.length).map fun (t : Nat) => (t : Int)).map (fun k => (pAt ps k, nAt ns k)) = ps.zip ns := by
  apply List.ext_getElem?
  intro i
  rw [List.getElem?_map, List.getElem?_map]
  by_cases h : i < ps.length
  · rw [List.getElem?_range h, List.getElem?_eq_getElem (by rw [List.length_zip]; omega), List.getElem_zip]
    show some (pAt ps (i : Int), nAt ns (i : Int)) = _
    unfold pAt nAt
    rw [Int.toNat_natCast, List.getD_eq_getElem?_getD, List.getD_eq_getElem?_getD, List.getElem?_eq_getElem h, List.getElem?_eq_getElem (by omega)]
    rfl
  · rw [List.getElem?_eq_none (by rw [List.length_range]; omega), List.getElem?_eq_none (by rw [List.length_zip]; omega)]
    rfl
section
variable {P : Program} {w : World} {K : PySem.W.Frag} {mg : Str → Option Value} {base : Heap}
variable {f fT fL : Addr} {fdT fdL : FuncData} {cdv : Value} {A : Around} {outer : List Env} {s : Shared} {H0 : Hp} {E : XK}
theorem plE_read (T : Txt mg) (CT : Can P w K mg base "_law_take" 1 fT fdT ["pot", "wide"] spTake) (CL : Can P w K mg base "_law_lot" 2 fL fdL ["pot", "wide"] spLot) (hr : Room 2 (XPl P w K mg base f cdv A outer s H0 E).A) {D : Ends} {H H1 : Hp} {p pl nl ol : Addr} {vs : List V} {ps : List (List Int)} {ns os : List Int} {wi : Int} {v1 v2 v6 v7 v8 v10 : Option V}
    (ap : PAp H p pl nl) (S : PSt H H1 p pl nl vs ps ns) (ho : H1 ol = some (.lst (os.map V.int))) (hl : ns.length = ps.length) (l22 : ps.length ≤ 22) (l1 : 0 < ps.length) (hp : os.Perm ((List.range ps.length).map fun (t : Nat) => (t : Int)))
    (w0 : 0 ≤ wi) (w12 : wi ≤ 12) (lots : ∀ ts ∈ ps, Lot wi ts) (nb : ∀ n ∈ ns, -100 ≤ n ∧ n ≤ 100) (sums : ∀ t : Int, 0 ≤ t → t < wi → sumT t (ps.zip ns) = 1)
    (k : ∀ l b q pcs ns N' H', H' l = some (.lst [.ref b, .ref q]) → PlOk H' b q wi pcs ns → H' p = some (.lst [.int N']) → 0 ≤ N' → Keep H H' p → D.rt (.ref l) H') :
    (plE T CT CL hr).1 D [some (.ref p), v1, v2, some (.int wi), some (.ref pl), some (.ref nl), v6, v7, v8, some (.ref ol), v10] H1 := by
  have vl := S.lts.len
  have hlen : os.length = ps.length := by rw [hp.length_eq, List.length_map, List.length_range]
  have hmem : ∀ t ∈ os, 0 ≤ t ∧ t < ps.length := fun t ht => by
    obtain ⟨u, hu, rfl⟩ := List.mem_map.mp (hp.mem_iff.mp ht)
    have := List.mem_range.mp hu
    exact ⟨by omega, by omega⟩
  have hz : (os.map V.int).length < sizeLine := by rw [List.length_map, PySem.sizeLine_eq]; omega
  refine ⟨_, rfl, (by show 0 ≤ sizeLine; decide), fun t5 H5 y5 x5 => ?_⟩
  refine ⟨_, rfl, ol, rfl, ⟨_, SqL.of (x5 _ _ ho)⟩, comp_lst (xs := os.map V.int) hz (fun D j σ' H' zs => (∃ v, σ' = [v, some (.ref pl)]) ∧ PcsAt H' zs ((os.take j).map fun k => (pAt ps k, (0 : Int))) ∧ Ext H5 H' ∧ H' D = some (.lst zs) ∧ H5 D = none) ?_ ?_ ?_ ?_⟩
  · intro D hD
    exact ⟨⟨_, rfl⟩, trivial, (Ext.refl _).new hD _, upd_same, hD⟩
  · rintro D j σ' H' zs hD ⟨_, hpc, e, h2, _⟩
    refine ⟨(x5.trans e) _ _ ho, h2, ?_⟩
    rw [hpc.len, List.length_map, List.length_take]
    omega
  · rintro D j σ' H' zs x hD hx ⟨⟨v, rfl⟩, hpc, e, h2, hn⟩
    obtain ⟨z, hz, rfl⟩ : ∃ z : Int, os[j]? = some z ∧ V.int z = x := by
      rw [List.getElem?_map] at hx
      cases hq : os[j]? with
      | none => rw [hq] at hx; cases hx
      | some z => rw [hq] at hx; cases hx; exact ⟨z, rfl, rfl⟩
    obtain ⟨z0, z1⟩ := hmem z (List.mem_of_getElem? hz)
    have hv : vs[z.toNat]? = some vs[z.toNat] := List.getElem?_eq_getElem (by omega)
    obtain ⟨pc, hpc1, hpc2⟩ := S.lts.at hv
    have epc : pAt ps z = pc := by unfold pAt; rw [List.getD_eq_getElem?_getD, hpc1]; rfl
    have at1 : atI vs z = some vs[z.toNat] := by
      have := atI_nat hv
      rwa [show ((z.toNat : Nat) : Int) = z by omega] at this
    dsimp only [gName, tTrue]
    rw [if_pos rfl]
    refine ⟨_, rfl, _, rfl, pl, _, _, _, rfl, rfl, SqL.of ((x5.trans e) _ _ S.pcs), at1, (by show 2 ≤ sizeLine; decide), fun r6 H6 y6 x6 => ?_⟩
    have h6 := x6 _ _ h2
    have tt : Tups H6 (upd H6 D (.lst (zs ++ [.ref r6]))) := fun b xs h => by
      rw [upd_ne (fun q => by rw [q, h6] at h; cases h)]
      exact h
    refine ⟨h6, ⟨_, rfl⟩, ?_, (e.trans x6).updNew hn _, upd_same, hn⟩
    have : os.take (j + 1) = os.take j ++ [z] := by
      rw [List.take_add_one, hz]
      rfl
    rw [this, List.map_append]
    refine PcsAt.snoc ?_ (hpc.mono (fun b xs h => tt _ _ (x6 _ _ h)))
    obtain ⟨q, eq, hq⟩ := hpc2
    rw [eq] at y6
    exact ⟨r6, q, rfl, tt _ _ y6, tt _ _ (((x5.trans e).trans x6) _ _ (by show H1 q = some (.tup ((pAt ps z).map V.int)); rw [epc]; exact hq))⟩
  · rintro D6 σ' H6 zs hD ⟨_, hpc, e6, h6, _⟩
    rw [List.length_map, List.take_length] at hpc
    refine ⟨D6, zs, rfl, .inl ⟨SqL.of h6, fun t7 ht7 => ?_⟩⟩
    have e7 : Ext H6 (upd H6 t7 (.tup zs)) := (Ext.refl _).new ht7 _
    have y7 : (upd H6 t7 (.tup zs)) t7 = some (.tup zs) := upd_same
    generalize upd H6 t7 (.tup zs) = H7 at e7 y7 ⊢
    refine ⟨(by show 3 ≤ sizeLine; decide), fun b H8 y8 x8 => ?_⟩
    have E8 := ((x5.trans e6).trans e7).trans x8
    refine ⟨_, rfl, ol, rfl, ⟨_, SqL.of (E8 _ _ ho)⟩, comp_lst (xs := os.map V.int) hz (fun D j σ' H' zs => (∃ v, σ' = [v, some (.ref nl)]) ∧ zs = ((os.take j).map (nAt ns)).map V.int ∧ Ext H8 H' ∧ H' D = some (.lst zs) ∧ H8 D = none) ?_ ?_ ?_ ?_⟩
    · intro D hD
      exact ⟨⟨_, rfl⟩, rfl, (Ext.refl _).new hD _, upd_same, hD⟩
    · rintro D j σ' H' zs hD ⟨_, rfl, e, h2, _⟩
      refine ⟨(E8.trans e) _ _ ho, h2, ?_⟩
      rw [List.length_map, List.length_map, List.length_take]
      omega
    · rintro D j σ' H' zs x hD hx ⟨⟨v, rfl⟩, rfl, e, h2, hn⟩
      obtain ⟨z, hz, rfl⟩ : ∃ z : Int, os[j]? = some z ∧ V.int z = x := by
        rw [List.getElem?_map] at hx
        cases hq : os[j]? with
        | none => rw [hq] at hx; cases hx
        | some z => rw [hq] at hx; cases hx; exact ⟨z, rfl, rfl⟩
      obtain ⟨z0, z1⟩ := hmem z (List.mem_of_getElem? hz)
      dsimp only [gName, tTrue]
      rw [if_pos rfl]
      refine ⟨_, rfl, _, rfl, nl, _, _, _, rfl, rfl, SqL.of ((E8.trans e) _ _ S.nums), ns_at z0 (by omega), h2, ⟨_, rfl⟩, ?_, e.updNew hn _, upd_same, hn⟩
      have : os.take (j + 1) = os.take j ++ [z] := by
        rw [List.take_add_one, hz]
        rfl
      rw [this, List.map_append, List.map_append]
      rfl
    · rintro D9 σ' H9 zs2 hD ⟨_, rfl, e9, h9, _⟩
      rw [List.length_map, List.take_length] at h9
      refine ⟨D9, _, rfl, .inl ⟨SqL.of h9, fun t10 ht10 => ?_⟩⟩
      have e10 : Ext H9 (upd H9 t10 (.tup ((os.map (nAt ns)).map V.int))) := (Ext.refl _).new ht10 _
      have y10 : (upd H9 t10 (.tup ((os.map (nAt ns)).map V.int))) t10 = some (.tup ((os.map (nAt ns)).map V.int)) := upd_same
      generalize upd H9 t10 (.tup ((os.map (nAt ns)).map V.int)) = H10 at e10 y10 ⊢
      refine ⟨(by show 2 ≤ sizeLine; decide), fun l J yl xl _ => ?_⟩
      have x8J := (e9.trans e10).trans xl
      have EJ := E8.trans x8J
      obtain ⟨N, hN, hpot⟩ := S.pot
      have hm : (os.map fun k => (pAt ps k, nAt ns k)).Perm (ps.zip ns) := by
        have := hp.map (fun k => (pAt ps k, nAt ns k))
        rwa [zip_range hl] at this
      have e1 : (os.map fun k => (pAt ps k, nAt ns k)).map Prod.snd = os.map (nAt ns) := by rw [List.map_map]; rfl
      have e2 : (os.map fun k => (pAt ps k, nAt ns k)).map (fun x => (x.1, (0 : Int))) = os.map fun k => (pAt ps k, (0 : Int)) := by rw [List.map_map]; rfl
      refine k l b t10 (os.map fun k => (pAt ps k, (0 : Int))) (os.map (nAt ns)) N J yl ⟨⟨t5, t7, zs, x8J _ _ y8, ((e6.trans e7).trans (x8.trans x8J)) _ _ y5, (x8.trans x8J) _ _ y7, hpc.mono ((e7.trans (x8.trans x8J)).tups)⟩, ⟨w0, by omega, Ris.nil _, by rw [List.length_map]; omega, fun pc hpc => ?_⟩, xl _ _ y10, by rw [List.length_map, List.length_map], by rw [List.length_map]; omega, by rw [List.length_map]; omega, w12, fun n hn => ?_, fun t h0 h1 => ?_⟩ (EJ _ _ hpot) hN fun c u h n => EJ _ _ (S.kp c u h n)
      · obtain ⟨z, hz, rfl⟩ := List.mem_map.mp hpc
        obtain ⟨z0, z1⟩ := hmem z hz
        have : ps[z.toNat]? = some ps[z.toNat] := List.getElem?_eq_getElem (by omega)
        refine ⟨?_, by show (-1000000000000 : Int) ≤ 0; decide, by show (0 : Int) ≤ 1000000000000; decide⟩
        show Lot wi (pAt ps z)
        unfold pAt
        rw [List.getD_eq_getElem?_getD, this]
        exact lots _ (List.getElem_mem _)
      · obtain ⟨z, hz, rfl⟩ := List.mem_map.mp hn
        obtain ⟨z0, z1⟩ := hmem z hz
        have : ns[z.toNat]? = some ns[z.toNat] := List.getElem?_eq_getElem (by omega)
        unfold nAt
        rw [List.getD_eq_getElem?_getD, this]
        exact nb _ (List.getElem_mem _)
      · have := ordered_sum hm (sums t h0 h1)
        rw [e1, e2, List.length_map] at this
        rw [List.length_map]
        exact this
end
end Eo
end
section
namespace Eo
open PySem L2
theorem thL_lot {lk : Int → Int} {n : Nat} {L wi : Int} (hw : (n : Int) = wi) (h : ∃ t : Nat, t < n ∧ lk t = L) : Lot wi (thL lk n L) :=
  ⟨thL_rise _ _ _, fun z hz => (by obtain ⟨a, b, _⟩ := mem_thL.mp hz; omega), fun z => (by
    obtain ⟨t, ht, e⟩ := h
    have : (t : Int) ∈ thL lk n L := mem_thL.mpr ⟨by omega, by omega, e⟩
    rw [z] at this
    cases this)⟩
def nz (l : List Int) : List Int := l.filter fun L => decide (L ≠ 0)
theorem nz_snoc (l : List Int) (L : Int) : nz (l ++ [L]) = if L = 0 then nz l else nz l ++ [L] := by
  unfold nz
  rw [List.filter_append, List.filter_cons]
  by_cases h : L = 0
  · rw [if_pos h, if_neg (by simp [h])]
    simp
  · rw [if_neg h, if_pos (by simp [h])]
    rfl
theorem zip_more {ps : List (List Int)} {ns Ls : List Int} (lk : Int → Int) (n : Nat) (hl : ns.length = ps.length) : (ps ++ Ls.map (thL lk n)).zip (ns ++ Ls) = ps.zip ns ++ Ls.map fun L => (thL lk n L, L) := by
  rw [List.zip_append hl.symm]
  congr 1
  induction Ls with
  | nil => rfl
  | cons a r ih => rw [List.map_cons, List.zip_cons_cons, ih, List.map_cons]
theorem sumT_bnd (t : Int) : ∀ l : List (List Int × Int), (∀ x ∈ l, -4 ≤ x.2 ∧ x.2 ≤ 4) → -(4 * (l.length : Int)) ≤ sumT t l ∧ sumT t l ≤ 4 * (l.length : Int)
  | [], _ => ⟨by show -(4 * ((0 : Nat) : Int)) ≤ 0; omega, by show (0 : Int) ≤ 4 * ((0 : Nat) : Int); omega⟩
  | x :: r, h => by
    obtain ⟨a, b⟩ := sumT_bnd t r fun y hy => h y (List.mem_cons_of_mem _ hy)
    obtain ⟨c, d⟩ := h x List.mem_cons_self
    show -(4 * ((r.length + 1 : Nat) : Int)) ≤ (if t ∈ x.1 then x.2 else 0) + sumT t r ∧ (if t ∈ x.1 then x.2 else 0) + sumT t r ≤ 4 * ((r.length + 1 : Nat) : Int)
    split <;> constructor <;> omega
theorem lack_bnd {ps : List (List Int)} {ns : List Int} (t : Int) (h : ∀ n ∈ ns, -4 ≤ n ∧ n ≤ 4) (hl : ps.length ≤ 10) : -100 ≤ lackOf ps ns t ∧ lackOf ps ns t ≤ 100 := by
  unfold lackOf
  rw [sumT_filter]
  obtain ⟨a, b⟩ := sumT_bnd t (ps.zip ns) fun x hx => h _ (List.of_mem_zip (a := x.1) (b := x.2) hx).2
  have : (ps.zip ns).length ≤ 10 := by rw [List.length_zip]; omega
  omega
section
variable {P : Program} {w : World} {K : PySem.W.Frag} {mg : Str → Option Value} {base : Heap}
variable {f fT fL : Addr} {fdT fdL : FuncData} {cdv : Value} {A : Around} {outer : List Env} {s : Shared} {H0 : Hp} {E : XK}
theorem plD_read (T : Txt mg) (CT : Can P w K mg base "_law_take" 1 fT fdT ["pot", "wide"] spTake) (CL : Can P w K mg base "_law_lot" 2 fL fdL ["pot", "wide"] spLot) (hr : Room 2 (XPl P w K mg base f cdv A outer s H0 E).A) {D : Ends} {H H1 : Hp} {p pl nl : Addr} {vs : List V} {ps : List (List Int)} {ns : List Int} {wi : Int} {v1 v2 v6 v7 v8 v9 v10 : Option V}
    (ap : PAp H p pl nl) (S : PSt H H1 p pl nl vs ps ns) (hl : ns.length = ps.length) (l22 : ps.length ≤ 22) (l1 : 0 < ps.length)
    (w0 : 0 ≤ wi) (w12 : wi ≤ 12) (lots : ∀ ts ∈ ps, Lot wi ts) (nb : ∀ n ∈ ns, -100 ≤ n ∧ n ≤ 100) (sums : ∀ t : Int, 0 ≤ t → t < wi → sumT t (ps.zip ns) = 1)
    (k : ∀ l b q pcs ns N' H', H' l = some (.lst [.ref b, .ref q]) → PlOk H' b q wi pcs ns → H' p = some (.lst [.int N']) → 0 ≤ N' → Keep H H' p → D.rt (.ref l) H') :
    (plD T CT CL hr).1 D [some (.ref p), v1, v2, some (.int wi), some (.ref pl), some (.ref nl), v6, v7, v8, v9, v10] H1 := by
  have vl := S.lts.len
  refine ⟨(by show 0 ≤ sizeLine; decide), fun ol H2 y2 x2 n2 => ?_⟩
  have S2 := S.ext x2
  obtain ⟨N, hN, hpot⟩ := S.pot
  have o1 : ol ≠ pl := Ne.symm (ne_of_none S.pcs n2)
  have o2 : ol ≠ nl := Ne.symm (ne_of_none S.nums n2)
  have op : ol ≠ p := Ne.symm (ne_of_none hpot n2)
  have o0 : H ol = none := by
    cases q : H ol with
    | none => rfl
    | some o => rw [S.kp _ _ q op] at n2; cases n2
  refine ⟨_, rfl, pl, _, rfl, .inl (SqL.of S2.pcs), _, rfl, by omega, by rw [vl]; omega, for_range (n := ((vs.length : Int)).toNat) (fun i σ H' => (∃ v10, σ = [some (.ref p), v1, v2, some (.int wi), some (.ref pl), some (.ref nl), v6, v7, v8, some (.ref ol), v10]) ∧ PSt H H' p pl nl vs ps ns ∧ ∃ os : List Int, H' ol = some (.lst (os.map V.int)) ∧ os.Perm ((List.range i).map fun (t : Nat) => (t : Int))) ⟨⟨_, rfl⟩, S2, [], y2, List.Perm.refl _⟩ ?_ ?_⟩
  · rintro i σ H3 hi ⟨⟨v10, rfl⟩, S3, os, ho, hp⟩
    have e0 : (0 + (i : Int)) = (i : Int) := by omega
    rw [e0]
    exact pl7_read T CT CL hr ap S3 ho o0 o1 o2 (by omega) hp fun H' os' S' ho' hp' => ⟨⟨_, rfl⟩, S', os', ho', hp'⟩
  · rintro σ H3 ⟨⟨v10, rfl⟩, S3, os, ho, hp⟩
    exact plE_read T CT CL hr ap S3 ho hl l22 l1 (by rw [← vl]; exact hp) w0 w12 lots nb sums k
theorem plC_read (T : Txt mg) (CT : Can P w K mg base "_law_take" 1 fT fdT ["pot", "wide"] spTake) (CL : Can P w K mg base "_law_lot" 2 fL fdL ["pot", "wide"] spLot) (hr : Room 2 (XPl P w K mg base f cdv A outer s H0 E).A) {D : Ends} {H H1 : Hp} {p pl nl d : Addr} {vs : List V} {ps : List (List Int)} {ns : List Int} {kvs : List (Key × V)} {wi : Int} {n : Nat} {v1 v2 v7 v8 v9 v10 : Option V}
    (ap : PAp H p pl nl) (S : PSt H H1 p pl nl vs ps ns) (d1 : d ≠ pl) (d2 : d ≠ nl) (hd : H1 d = some (.dK kvs)) (dk : DkSt H1 kvs (lackOf ps ns) n) (hn : (n : Int) = wi) (hl : ns.length = ps.length) (l10 : ps.length ≤ 10) (l1 : 0 < ps.length)
    (w12 : wi ≤ 12) (lots : ∀ ts ∈ ps, Lot wi ts) (nb : ∀ n ∈ ns, -4 ≤ n ∧ n ≤ 4)
    (k : ∀ l b q pcs ns N' H', H' l = some (.lst [.ref b, .ref q]) → PlOk H' b q wi pcs ns → H' p = some (.lst [.int N']) → 0 ≤ N' → Keep H H' p → D.rt (.ref l) H') :
    (plC T CT CL hr).1 D [some (.ref p), v1, v2, some (.int wi), some (.ref pl), some (.ref nl), some (.ref d), v7, v8, v9, v10] H1 := by
  have vl := S.lts.len
  obtain ⟨ks, k1, k2, k3, k4⟩ := dk.ks
  refine ⟨_, rfl, d, kvs, ks, rfl, hd, k1, by omega, fun sl so hsl _ pm => ?_⟩
  have x2 : Ext H1 (upd H1 sl (.lst (so.map V.int))) := (Ext.refl _).new hsl _
  have y2 : (upd H1 sl (.lst (so.map V.int))) sl = some (.lst (so.map V.int)) := upd_same
  have sp : sl ≠ pl := Ne.symm (ne_of_none S.pcs hsl)
  have sn : sl ≠ nl := Ne.symm (ne_of_none S.nums hsl)
  generalize upd H1 sl (.lst (so.map V.int)) = H2 at x2 y2 ⊢
  have sl12 : so.length ≤ 12 := by rw [pm.length_eq]; omega
  have nzl : ∀ i, (nz (so.take i)).length ≤ 12 := fun i => by
    unfold nz
    refine Nat.le_trans (List.length_filter_le _ _) ?_
    rw [List.length_take]
    omega
  have hin : ∀ L, L ∈ so ↔ ∃ t : Nat, t < n ∧ lackOf ps ns t = L := fun L => by rw [pm.mem_iff, k3]
  refine ⟨sl, rfl, ⟨_, SqL.of y2⟩, for_list (xs := so.map V.int) (fun i σ H' => (∃ v8, σ = [some (.ref p), v1, v2, some (.int wi), some (.ref pl), some (.ref nl), some (.ref d), v7, v8, v9, v10]) ∧ (∃ vs', PSt H H' p pl nl vs' (ps ++ (nz (so.take i)).map (thL (lackOf ps ns) n)) (ns ++ nz (so.take i))) ∧ H' d = some (.dK kvs) ∧ DkSt H' kvs (lackOf ps ns) n ∧ H' sl = some (.lst (so.map V.int))) ?_ ?_ ?_ ?_⟩
  · refine ⟨⟨_, rfl⟩, ⟨vs, ?_⟩, x2 _ _ hd, dk.mono x2.tups, y2⟩
    show PSt H H2 p pl nl vs (ps ++ []) (ns ++ [])
    rw [List.append_nil, List.append_nil]
    exact S.ext x2
  · rintro i σ H' hi ⟨_, _, _, _, h⟩
    exact SqL.of h
  · rintro i x σ H3 hx ⟨⟨v8, rfl⟩, ⟨vs', S3⟩, hd3, dk3, h3⟩
    obtain ⟨L, hL, rfl⟩ : ∃ z : Int, so[i]? = some z ∧ V.int z = x := by
      rw [List.getElem?_map] at hx
      cases hq : so[i]? with
      | none => rw [hq] at hx; cases hx
      | some z => rw [hq] at hx; cases hx; exact ⟨z, rfl, rfl⟩
    have z1 := nzl i
    have eq : so.take (i + 1) = so.take i ++ [L] := by
      rw [List.take_add_one, hL]
      rfl
    refine pl5_read T CT CL hr ap S3 hd3 dk3 ((hin L).mp (List.mem_of_getElem? hL)) (by rw [List.length_append, List.length_map]; omega) (by rw [List.length_append]; omega) fun H' vs' S' kp => ⟨⟨_, rfl⟩, ⟨vs', ?_⟩, kp _ _ hd3 d1 d2, ?_, kp _ _ h3 sp sn⟩
    · rw [eq, nz_snoc]
      by_cases h0 : L = 0
      · rw [if_pos h0]
        rw [if_pos h0, if_pos h0] at S'
        exact S'
      · rw [if_neg h0, List.map_append, ← List.append_assoc, ← List.append_assoc]
        rw [if_neg h0, if_neg h0] at S'
        exact S'
    · refine dk3.mono fun b xs h => kp _ _ h (fun z => ?_) (fun z => ?_)
      · rw [z, S3.pcs] at h; cases h
      · rw [z, S3.nums] at h; cases h
  · rintro σ H3 ⟨⟨v8, rfl⟩, ⟨vs', S3⟩, hd3, dk3, h3⟩
    rw [List.length_map, List.take_length] at S3
    have z1 := nzl so.length
    rw [List.take_length] at z1
    have nd : (nz so).Nodup := (pm.nodup_iff.mpr k2).sublist (List.filter_sublist ..)
    have hm : ∀ L, L ∈ nz so ↔ L ≠ 0 ∧ ∃ u : Nat, u < n ∧ lackOf ps ns u = L := fun L => by
      unfold nz
      rw [List.mem_filter, hin]
      exact ⟨fun ⟨a, b⟩ => ⟨of_decide_eq_true b, a⟩, fun ⟨a, b⟩ => ⟨b, decide_eq_true a⟩⟩
    refine plD_read T CT CL hr ap S3 (by rw [List.length_append, List.length_append, List.length_map]; omega) (by rw [List.length_append, List.length_map]; omega) (by rw [List.length_append]; omega) (by omega) w12 (fun ts hts => ?_) (fun x hx => ?_) (fun t h0 h1 => ?_) k
    · rcases List.mem_append.mp hts with z | z
      · exact lots ts z
      · obtain ⟨L, hL, rfl⟩ := List.mem_map.mp z
        exact thL_lot hn ((hm L).mp hL).2
    · rcases List.mem_append.mp hx with z | z
      · have := nb x z
        omega
      · obtain ⟨_, u, _, rfl⟩ := (hm x).mp z
        exact lack_bnd _ nb l10
    · rw [zip_more _ _ hl]
      exact planted_sum h0 (by omega) nd hm
end
end Eo
end
section
namespace Eo
open PySem L2
section
variable {P : Program} {w : World} {K : PySem.W.Frag} {mg : Str → Option Value} {base : Heap}
variable {f fT fL : Addr} {fdT fdL : FuncData} {cdv : Value} {A : Around} {outer : List Env} {s : Shared} {H0 : Hp} {E : XK}
theorem plB_read (T : Txt mg) (CT : Can P w K mg base "_law_take" 1 fT fdT ["pot", "wide"] spTake) (CL : Can P w K mg base "_law_lot" 2 fL fdL ["pot", "wide"] spLot) (hr : Room 2 (XPl P w K mg base f cdv A outer s H0 E).A) {D : Ends} {H H1 : Hp} {p pl nl : Addr} {vs : List V} {ps : List (List Int)} {ns : List Int} {wi : Int} {v1 v2 v6 v7 v8 v9 v10 : Option V}
    (ap : PAp H p pl nl) (S : PSt H H1 p pl nl vs ps ns) (hl : ns.length = ps.length) (l10 : ps.length ≤ 10) (l1 : 0 < ps.length) (w0 : 0 ≤ wi) (w12 : wi ≤ 12) (lots : ∀ ts ∈ ps, Lot wi ts) (nb : ∀ n ∈ ns, -4 ≤ n ∧ n ≤ 4)
    (k : ∀ l b q pcs ns N' H', H' l = some (.lst [.ref b, .ref q]) → PlOk H' b q wi pcs ns → H' p = some (.lst [.int N']) → 0 ≤ N' → Keep H H' p → D.rt (.ref l) H') :
    (plB T CT CL hr).1 D [some (.ref p), v1, v2, some (.int wi), some (.ref pl), some (.ref nl), v6, v7, v8, v9, v10] H1 := by
  intro d hd1
  obtain ⟨N, hN, hpot⟩ := S.pot
  have d1 : d ≠ pl := Ne.symm (ne_of_none S.pcs hd1)
  have d2 : d ≠ nl := Ne.symm (ne_of_none S.nums hd1)
  have dp : d ≠ p := Ne.symm (ne_of_none hpot hd1)
  have d0 : H d = none := by
    cases q : H d with
    | none => rfl
    | some o => rw [S.kp _ _ q dp] at hd1; cases hd1
  have x2 : Ext H1 (upd H1 d (.dK [])) := (Ext.refl _).new hd1 _
  have y2 : (upd H1 d (.dK [])) d = some (.dK []) := upd_same
  generalize upd H1 d (.dK []) = H2 at x2 y2 ⊢
  refine ⟨_, rfl, wi, rfl, by omega, by omega, for_range (n := wi.toNat) (fun i σ H' => (∃ v7 v8, σ = [some (.ref p), v1, v2, some (.int wi), some (.ref pl), some (.ref nl), some (.ref d), v7, v8, v9, v10]) ∧ PSt H H' p pl nl vs ps ns ∧ ∃ kvs, H' d = some (.dK kvs) ∧ DkSt H' kvs (lackOf ps ns) i) ⟨⟨_, _, rfl⟩, S.ext x2, [], y2, DkSt.nil _ _⟩ ?_ ?_⟩
  · rintro i σ H3 hi ⟨⟨v7, v8, rfl⟩, S3, kvs, hd, dk⟩
    have e0 : (0 + (i : Int)) = (i : Int) := by omega
    rw [e0]
    exact pl4_read T CT CL hr ap S3 d0 d1 d2 hd dk hl l10 (by omega) fun H' kvs' v8 S' h1 h2 => ⟨⟨_, _, rfl⟩, S', kvs', h1, h2⟩
  · rintro σ H3 ⟨⟨v7, v8, rfl⟩, S3, kvs, hd, dk⟩
    exact plC_read T CT CL hr ap S3 d1 d2 hd dk (by omega) hl l10 l1 w12 lots nb k
def spPlanted : Sp := fun vs H Q _ => ∃ (p : Addr) (N : Int), vs = [.ref p, .int 12, .int 10] ∧ H p = some (.lst [.int N]) ∧ 0 ≤ N ∧
  ∀ l b q wi pcs ns N' H', H' l = some (.lst [.ref b, .ref q]) → PlOk H' b q wi pcs ns → H' p = some (.lst [.int N']) → 0 ≤ N' → Keep H H' p → Q (.ref l) H'
theorem ok_planted {fd : FuncData} (F : Fun K "_law_planted" "_law_planted" sPlanted f fd) (T : Txt mg) (CT : Can P w K mg base "_law_take" 1 fT fdT ["pot", "wide"] spTake) (CL : Can P w K mg base "_law_lot" 2 fL fdL ["pot", "wide"] spLot) : FnOk P w K mg base CX0 3 f fd ["pot", "most_things", "most_pieces"] spPlanted := by
  refine F.ok scPlanted (fun vs H Q E h => ?_) (fun cdv A outer s H vs Q E hr h => ?_)
  · obtain ⟨_, _, rfl, _⟩ := h
    rfl
  · obtain ⟨p, N, rfl, hp, hN, k⟩ := h
    refine ⟨_, (plA T CT CL hr).2.h, ?_⟩
    refine ⟨_, rfl, _, rfl, p, N, 12, rfl, hp, hN, by decide, by decide, fun N2 r2 a1 a2 a3 => ?_⟩
    refine ⟨_, _, rfl, rfl, ?_⟩
    refine ⟨_, rfl, _, rfl, p, N2, 10, rfl, upd_same, a1, by decide, by decide, fun N3 r3 b1 b2 b3 => ?_⟩
    rw [upd_upd]
    have k3 : Keep H (upd H p (.lst [.int N3])) p := fun c u h n => by rw [upd_ne n]; exact h
    have hp3 : (upd H p (.lst [.int N3])) p = some (.lst [.int N3]) := upd_same
    generalize upd H p (.lst [.int N3]) = H3 at k3 hp3 ⊢
    refine ⟨_, _, rfl, rfl, 1 + r3, rfl, by omega, by omega, comp_rng (n := (1 + r3).toNat) (by rw [PySem.sizeLine_eq]; omega) (fun D j σ' H' zs => (∃ v, σ' = [v, some (.ref p), some (.int (1 + r2))]) ∧ (∃ ps, LtsAt H' zs ps ∧ ps.length = j ∧ ∀ ts ∈ ps, Lot (1 + r2) ts) ∧ (∃ N' : Int, 0 ≤ N' ∧ H' p = some (.lst [.int N'])) ∧ Keep H3 H' p ∧ H' D = some (.lst zs) ∧ H3 D = none) ?_ ?_ ?_ ?_⟩
    · intro D hD
      have pD : p ≠ D := ne_of_none hp3 hD
      exact ⟨⟨_, rfl⟩, ⟨[], trivial, rfl, fun n hn => by cases hn⟩, ⟨N3, b1, by rw [upd_ne pD]; exact hp3⟩, (Keep.refl _ _).new hD _, upd_same, hD⟩
    · rintro D j σ' H' zs hD hj ⟨_, ⟨ps, hL, nl, _⟩, _, _, h2, _⟩
      exact ⟨h2, by rw [hL.len]; omega⟩
    · rintro D j σ' H' zs hD hj ⟨⟨v, rfl⟩, ⟨ps, hL, nl, nb⟩, ⟨N4, n4, hp4⟩, kk, h2, hn⟩
      have pD : D ≠ p := Ne.symm (ne_of_none hp3 hn)
      dsimp only [gName, tTrue]
      rw [if_pos rfl]
      refine ⟨_, rfl, _, rfl, p, N4, 1 + r2, rfl, hp4, n4, by omega, by omega, fun q N' ts H5 g1 g2 g3 g4 g5 => ?_⟩
      have h5 := g5 _ _ h2 pD
      have tt : Tups H' (upd H5 D (.lst (zs ++ [.ref q]))) := fun b xs h => by
        rw [upd_ne (fun z => by rw [z, h2] at h; cases h)]
        exact g5 _ _ h fun z => by rw [z, hp4] at h; cases h
      refine ⟨h5, ⟨_, rfl⟩, ⟨ps ++ [ts], LtsAt.snoc ⟨q, rfl, ?_⟩ (hL.mono tt), by rw [List.length_append, nl]; rfl, fun t ht => ?_⟩, ⟨N', g1, by rw [upd_ne (Ne.symm pD)]; exact g4⟩, fun c u h n => ?_, upd_same, hn⟩
      · rw [upd_ne (fun z => by rw [z, h5] at g3; cases g3)]
        exact g3
      · rcases List.mem_append.mp ht with z | z
        · exact nb t z
        · cases List.mem_singleton.mp z
          exact g2
      · rw [upd_ne (ne_of_none h hn)]
        exact g5 _ _ (kk c u h n) n
    · rintro pl σ' H4 zs hD ⟨_, ⟨ps, hL, plen, lots⟩, ⟨N4, n4, hp4⟩, kk, h2, hn⟩
      have np : pl ≠ p := Ne.symm (ne_of_none hp3 hn)
      have pH : H pl = none := by
        cases q : H pl with
        | none => rfl
        | some o => rw [k3 _ _ q np] at hn; cases hn
      have vl := hL.len
      have K4 : Keep H H4 p := k3.trans kk
      refine ⟨_, rfl, pl, rfl, ⟨_, SqL.of h2⟩, comp_lst (xs := zs) (by rw [PySem.sizeLine_eq]; omega) (fun D j σ' H' ys => (∃ v, σ' = [v, some (.ref p)]) ∧ (∃ ns : List Int, ys = ns.map V.int ∧ ns.length = j ∧ ∀ n ∈ ns, -4 ≤ n ∧ n ≤ 4) ∧ (∃ N' : Int, 0 ≤ N' ∧ H' p = some (.lst [.int N'])) ∧ Keep H4 H' p ∧ H' D = some (.lst ys) ∧ H4 D = none) ?_ ?_ ?_ ?_⟩
      · intro D hD
        have pD : p ≠ D := ne_of_none hp4 hD
        exact ⟨⟨_, rfl⟩, ⟨[], rfl, rfl, fun n hn => by cases hn⟩, ⟨N4, n4, by rw [upd_ne pD]; exact hp4⟩, (Keep.refl _ _).new hD _, upd_same, hD⟩
      · rintro D j σ' H' ys hD ⟨_, ⟨ns, rfl, nl, _⟩, _, k5, h5, _⟩
        exact ⟨k5 _ _ h2 np, h5, by rw [List.length_map]; omega⟩
      · rintro D j σ' H' ys x hD hx ⟨⟨v, rfl⟩, ⟨ns, rfl, nl, nb⟩, ⟨N5, n5, hp5⟩, k5, h5, hn5⟩
        have pD : D ≠ p := Ne.symm (ne_of_none hp4 hn5)
        dsimp only [gName, tTrue]
        rw [if_pos rfl]
        refine ⟨_, rfl, p, N5, 9, rfl, hp5, n5, by decide, by decide, fun N6 r6 c1 c2 c3 => ?_⟩
        refine ⟨_, _, rfl, rfl, by rw [upd_ne pD]; exact h5, ⟨_, rfl⟩, ⟨ns ++ [r6 - 4], by rw [List.map_append]; rfl, by rw [List.length_append, nl]; rfl, fun n hn' => ?_⟩, ⟨N6, c1, by rw [upd_ne (Ne.symm pD)]; exact upd_same⟩, fun c u h n => ?_, upd_same, hn5⟩
        · rcases List.mem_append.mp hn' with z | z
          · exact nb n z
          · cases List.mem_singleton.mp z
            exact ⟨by omega, by omega⟩
        · rw [upd_ne (ne_of_none h hn5), upd_ne n]
          exact k5 c u h n
      · rintro nl σ' H5 ys hD ⟨_, ⟨ns, rfl, nlen, nb⟩, ⟨N5, n5, hp5⟩, k5, h5, hn5⟩
        have nnp : nl ≠ p := Ne.symm (ne_of_none hp4 hn5)
        have nH : H nl = none := by
          cases q : H nl with
          | none => rfl
          | some o => rw [K4 _ _ q nnp] at hn5; cases hn5
        refine plB_read T CT CL hr ⟨⟨_, hp⟩, pH, nH, ne_of_none h2 hn5⟩ ⟨⟨N5, n5, hp5⟩, k5 _ _ h2 np, hL.mono (fun b xs h => k5 _ _ h fun z => by rw [z, hp4] at h; cases h), h5, K4.trans k5⟩ (by omega) (by omega) (by omega) (by omega) (by omega) lots nb fun l b q pcs ns N' H' g1 g2 g3 g4 g5 => k l b q _ pcs ns N' H' g1 g2 g3 g4 g5
end
end Eo
end
section
namespace L2
open PySem
theorem je_p30 {X : Cx} {p2 p3 p4 : Pos} {k2 k3 : Nat} : JE X (.BinOp (.Constant (.int 10) k2 p2) .Pow (.Constant (.int 30) k3 p3) p4) (tC (.int 1000000000000000000000000000000)) := ⟨pe_cpow (by decide) (by decide) (by decide) (by decide)⟩
end L2
namespace Eo
open PySem L2
theorem Ats.cutA {H : Hp} {os : List Ob} {vs : List V} (h : Ats H os vs) (lo hi : Option Int) : ∃ os', Ats H os' (cutV vs lo hi) ∧ os'.length ≤ os.length :=
  ⟨_, (h.drop _).take _, by rw [List.length_take, List.length_drop]; omega⟩
section
variable {P : Program} {w : World} {K : PySem.W.Frag} {mg : Str → Option Value} {base : Heap}
variable {f fT : Addr} {fdT : FuncData} {cdv : Value} {A : Around} {outer : List Env} {s : Shared} {H0 : Hp} {E : XK}
abbrev nBent : List Str := ["pot", "numbers", "at", "odd", "some"]
theorem scBent : FnScope nBent ["pot", "numbers"] (defScope sBent) := ⟨rfl, rfl, rfl, by decide +kernel, rfl, by decide +kernel, by decide +kernel⟩
abbrev XBe (P : Program) (w : World) (K : PySem.W.Frag) (mg : Str → Option Value) (base : Heap) (f : Addr) (cdv : Value) (A : Around) (outer : List Env) (s : Shared) (H : Hp) (E : XK) : Cx := XOf nBent "_law_bent" sBent P w K mg base f cdv A outer s H E
def bent4 (T : Txt mg) (CT : Can P w K mg base "_law_take" 1 fT fdT ["pot", "wide"] spTake) (hr : Room 1 (XBe P w K mg base f cdv A outer s H0 E).A) : { t : TS // JSs (XBe P w K mg base f cdv A outer s H0 E) ((defBody sBent).drop 4) t } :=
  have nd := scBent.nd
  ⟨_, (jss_one (js_ret (je_ix ix_list (jv 4 rfl (vis_l (by decide +kernel))) (CT.je hr (gl_d (by decide +kernel)) (ja_cons (jv 0 rfl (vis_l (by decide +kernel))) (ja_cons (je_callB call_len_seq (gl_d (by decide +kernel)) T.len (by decide +kernel) (ja_cons (jv 4 rfl (vis_l (by decide +kernel))) ja_nil se_name) se_name) ja_nil se_call) se_name) se_name) px_call)))⟩
def bent3 (T : Txt mg) (CT : Can P w K mg base "_law_take" 1 fT fdT ["pot", "wide"] spTake) (hr : Room 1 (XBe P w K mg base f cdv A outer s H0 E).A) : { t : TS // JSs (XBe P w K mg base f cdv A outer s H0 E) ((defBody sBent).drop 3) t } :=
  have nd := scBent.nd
  ⟨_, (jss_cons (js_set (i := 4) nd rfl (loc_l (by decide +kernel)) (je_op op_catLU (jv 4 rfl (vis_l (by decide +kernel))) (je_lstU (ja_cons (je_callTy call_tuple_of (gl_d (by decide +kernel)) T.tuple (by decide +kernel) (ja_cons (je_comp (m := [none]) (Nc := ["number"]) rfl (ji_tup (jv 1 rfl (vis_l (by decide +kernel)))) rfl (by decide +kernel) (by decide +kernel) (free_ok (psc := defScope sBent) (by decide +kernel)) (freeAt_ok (N := nBent) rfl rfl (by decide +kernel)) (fun cl C fp s H => jg_name (i := 0) (show (["number"] : List Str).Nodup by decide +kernel) rfl (loc_b (by decide +kernel))) (fun cl C fp s H => jts_nil) (fun cl C fp s H => (je_un un_neg (jv 0 rfl (vis_bl (by decide +kernel))))) fo_name) ja_nil se_comp) se_comp) (ja_cons (je_tupU (ja_cons (jv 1 rfl (vis_l (by decide +kernel))) ja_nil se_name)) (ja_cons (je_dictU) (ja_cons (je_int) (ja_cons (je_rev (jv 1 rfl (vis_l (by decide +kernel))) (jo_some (je_un un_neg (je_int)))) ja_nil se_sub) se_const) se_dict) se_tup) se_call))) sw_bin) (bent4 T CT hr).2)⟩
def bent2 (T : Txt mg) (CT : Can P w K mg base "_law_take" 1 fT fdT ["pot", "wide"] spTake) (hr : Room 1 (XBe P w K mg base f cdv A outer s H0 E).A) : { t : TS // JSs (XBe P w K mg base f cdv A outer s H0 E) ((defBody sBent).drop 2) t } :=
  have nd := scBent.nd
  ⟨_, (jss_cons (js_set (i := 4) nd rfl (loc_l (by decide +kernel)) (je_lstU (ja_cons (jv 1 rfl (vis_l (by decide +kernel))) (ja_cons (je_op op_catU (je_op op_catU (je_slice sl_tupU (jv 1 rfl (vis_l (by decide +kernel))) jo_none (jo_some (jv 2 rfl (vis_l (by decide +kernel))))) (je_tupU (ja_cons (jv 3 rfl (vis_l (by decide +kernel))) ja_nil se_name))) (je_slice sl_tupU (jv 1 rfl (vis_l (by decide +kernel))) (jo_some (je_op op_add (jv 2 rfl (vis_l (by decide +kernel))) (je_int))) jo_none)) (ja_cons (je_op op_catU (jv 1 rfl (vis_l (by decide +kernel))) (je_tupU (ja_cons (je_int) ja_nil se_const))) (ja_cons (je_slice sl_tupU (jv 1 rfl (vis_l (by decide +kernel))) jo_none (jo_some (je_un un_neg (je_int)))) (ja_cons (je_callTy call_listU (gl_d (by decide +kernel)) T.list (by decide +kernel) (ja_cons (jv 1 rfl (vis_l (by decide +kernel))) ja_nil se_name) se_name) (ja_cons (je_non) ja_nil se_const) se_call) se_sub) se_bin) se_bin) se_name)) sw_lst) (bent3 T CT hr).2)⟩
def bent0 (T : Txt mg) (CT : Can P w K mg base "_law_take" 1 fT fdT ["pot", "wide"] spTake) (hr : Room 1 (XBe P w K mg base f cdv A outer s H0 E).A) : { t : TS // JSs (XBe P w K mg base f cdv A outer s H0 E) ((defBody sBent).drop 0) t } :=
  have nd := scBent.nd
  ⟨_, (jss_cons (js_set (i := 2) nd rfl (loc_l (by decide +kernel)) (CT.je hr (gl_d (by decide +kernel)) (ja_cons (jv 0 rfl (vis_l (by decide +kernel))) (ja_cons (je_callB call_len_seq (gl_d (by decide +kernel)) T.len (by decide +kernel) (ja_cons (jv 1 rfl (vis_l (by decide +kernel))) ja_nil se_name) se_name) ja_nil se_call) se_name) se_name) sw_call) (jss_cons (js_set (i := 3) nd rfl (loc_l (by decide +kernel)) (je_ix ix_list (je_lstU (ja_cons (je_op op_add (je_ix ix_tup (jv 1 rfl (vis_l (by decide +kernel))) (jv 2 rfl (vis_l (by decide +kernel))) px_name) (je_int)) (ja_cons (je_op op_sub (je_ix ix_tup (jv 1 rfl (vis_l (by decide +kernel))) (jv 2 rfl (vis_l (by decide +kernel))) px_name) (je_p30)) (ja_cons (je_non) (ja_cons (je_bl) (ja_cons (je_callTy call_str_int (gl_d (by decide +kernel)) T.str (by decide +kernel) (ja_cons (je_ix ix_tup (jv 1 rfl (vis_l (by decide +kernel))) (jv 2 rfl (vis_l (by decide +kernel))) px_name) ja_nil se_sub) se_sub) (ja_cons (je_tupU (ja_cons (je_int) ja_nil se_const)) (ja_cons (je_int) (ja_cons (je_int) ja_nil se_const) se_const) se_tup) se_call) se_const) se_const) se_bin) se_bin)) (CT.je hr (gl_d (by decide +kernel)) (ja_cons (jv 0 rfl (vis_l (by decide +kernel))) (ja_cons (je_int) ja_nil se_const) se_name) se_name) px_call) sw_sub) (bent2 T CT hr).2))⟩
/-- what the list holds so far -/
structure BSt (H : Hp) (p q l : Addr) (ns : List Int) (c : Nat) : Prop where
  pot : ∃ N : Int, 0 ≤ N ∧ H p = some (.lst [.int N])
  num : H q = some (.tup (ns.map V.int))
  lst : ∃ us, H l = some (.lst us) ∧ Alls H us ∧ 0 < us.length ∧ us.length ≤ c
  lp : l ≠ p
  nl : ns.length ≤ 22
  np : 0 < ns.length
abbrev BK (H : Hp) (p : Addr) (R : VK) : Prop := ∀ v o N' H', At H' o v → H' p = some (.lst [.int N']) → 0 ≤ N' → Keep H H' p → R v H'
theorem BK.on {H H1 : Hp} {p : Addr} {R : VK} (k : BK H p R) (e : Ext H H1) : BK H1 p R := fun v o N' H' h1 h2 h3 h4 => k v o N' H' h1 h2 h3 fun c u h n => h4 _ _ (e _ _ h) n
theorem bent4_read (T : Txt mg) (CT : Can P w K mg base "_law_take" 1 fT fdT ["pot", "wide"] spTake) (hr : Room 1 (XBe P w K mg base f cdv A outer s H0 E).A)
    {D : Ends} {H : Hp} {p q l : Addr} {ns : List Int} {v2 v3 : Option V} (B : BSt H p q l ns 21) (k : BK H p D.rt) :
    (bent4 T CT hr).1 D [some (.ref p), some (.ref q), v2, v3, some (.ref l)] H := by
  obtain ⟨⟨N, hN, hp⟩, hq, ⟨us, hl, hA, u0, u1⟩, lp, nl, np⟩ := B
  refine ⟨_, rfl, _, rfl, _, rfl, l, _, rfl, .inl (SqL.of hl), p, N, _, rfl, hp, hN, by omega, by omega, fun N1 r a1 a2 a3 => ?_⟩
  have k1 : Keep H (upd H p (.lst [.int N1])) p := (Keep.refl _ _).upd _
  have hp1 : (upd H p (.lst [.int N1])) p = some (.lst [.int N1]) := upd_same
  obtain ⟨v, o, hat, hAt⟩ := (hA.mono (Kp.keep k1 hp hp1)).pick a2 a3
  exact ⟨l, _, r, v, rfl, rfl, SqL.of (k1 _ _ hl lp), hat, k v o N1 _ hAt hp1 a1 k1⟩
theorem bent3_read (T : Txt mg) (CT : Can P w K mg base "_law_take" 1 fT fdT ["pot", "wide"] spTake) (hr : Room 1 (XBe P w K mg base f cdv A outer s H0 E).A)
    {D : Ends} {H : Hp} {p q l : Addr} {ns : List Int} {v2 v3 : Option V} (B : BSt H p q l ns 6) (k : BK H p D.rt) :
    (bent3 T CT hr).1 D [some (.ref p), some (.ref q), v2, v3, some (.ref l)] H := by
  obtain ⟨⟨N, hN, hp⟩, hq, ⟨us, hl, hA, u0, u1⟩, lp, nl, np⟩ := B
  have hNum : ∀ {J : Hp}, Ext H J → At J (.tup (ns.map Ob.int)) (.ref q) := fun {J} e => at_tup (e _ _ hq) (by rw [List.length_map]; omega) (Ats.ints _)
  refine ⟨_, rfl, _, rfl, q, rfl, ⟨_, SqT.of hq⟩, comp_tup (xs := ns.map V.int) (by rw [List.length_map, PySem.sizeLine_eq]; omega) (fun D2 j σ' H' zs => (∃ v, σ' = [v]) ∧ zs = ((ns.take j).map fun (one : Int) => -one).map V.int ∧ Ext H H' ∧ H' D2 = some (.lst zs) ∧ H D2 = none) ?_ ?_ ?_ ?_⟩
  · intro D2 hD
    exact ⟨⟨_, rfl⟩, rfl, (Ext.refl _).new hD _, upd_same, hD⟩
  · rintro D2 j σ' H' zs hD ⟨_, rfl, e, h2, _⟩
    refine ⟨e _ _ hq, h2, ?_⟩
    rw [List.length_map, List.length_map, List.length_take]
    omega
  · rintro D2 j σ' H' zs x hD hx ⟨⟨v, rfl⟩, rfl, e, h2, hn⟩
    obtain ⟨z, hz, rfl⟩ : ∃ z : Int, ns[j]? = some z ∧ V.int z = x := by
      rw [List.getElem?_map] at hx
      cases hq : ns[j]? with
      | none => rw [hq] at hx; cases hx
      | some z => rw [hq] at hx; cases hx; exact ⟨z, rfl, rfl⟩
    dsimp only [gName, tTrue]
    rw [if_pos rfl]
    refine ⟨_, rfl, _, rfl, h2, ⟨_, rfl⟩, ?_, e.updNew hn _, upd_same, hn⟩
    have : ns.take (j + 1) = ns.take j ++ [z] := by
      rw [List.take_add_one, hz]
      rfl
    rw [this, List.map_append, List.map_append]
    rfl
  rintro D2 σ' J0 zs hD ⟨_, rfl, x0, h2, hn⟩
  rw [List.length_map, List.take_length] at h2
  refine ⟨D2, _, rfl, .inl ⟨SqL.of h2, fun t0 ht0 => ?_⟩⟩
  have xa : Ext J0 (upd J0 t0 (.tup ((ns.map fun (one : Int) => -one).map V.int))) := (Ext.refl _).new ht0 _
  have ya : (upd J0 t0 (.tup ((ns.map fun (one : Int) => -one).map V.int))) t0 = some (.tup ((ns.map fun (one : Int) => -one).map V.int)) := upd_same
  generalize upd J0 t0 (.tup ((ns.map fun (one : Int) => -one).map V.int)) = Ja at xa ya ⊢
  refine ⟨_, rfl, (by show 1 ≤ sizeLine; decide), fun t1 J1 y1 x1 => ?_⟩
  refine fun t2 J2 y2 x2 => ?_
  have Z2 := ((x0.trans xa).trans x1).trans x2
  refine ⟨_, rfl, _, rfl, -1, rfl, rfl, q, _, rfl, Z2 _ _ hq, fun t3 J3 y3 x3 => ?_⟩
  refine ⟨(by show 5 ≤ sizeLine; decide), fun l3 JL yl xl _ => ?_⟩
  have ZL := (Z2.trans x3).trans xl
  refine ⟨l, l3, us, _, rfl, rfl, ZL _ _ hl, yl, (by rw [PySem.sizeLine_eq]; show us.length + 5 ≤ _; omega), fun l9 J9 y9 x9 n9 => ?_⟩
  have Z9 := ZL.trans x9
  have A9 : Alls J9 [.ref t0, .ref t1, .ref t2, .int 1, .ref t3] := .cons (at_tup (((((x1.trans x2).trans x3).trans xl).trans x9) _ _ ya) (by rw [List.length_map, List.length_map]; omega) (Ats.ints _)) (.cons (at_tup ((((x2.trans x3).trans xl).trans x9) _ _ y1) (by show 1 ≤ 100; decide) (ats1 (hNum Z9) (ats0 _))) (.cons (at_dct (((x3.trans xl).trans x9) _ _ y2)) (.cons (at_int _ _) (.cons (at_tup ((xl.trans x9) _ _ y3) (by rw [List.length_reverse, List.length_map]; omega) (by rw [← List.map_reverse]; exact Ats.ints _)) (.nil _)))))
  exact bent4_read T CT hr ⟨⟨N, hN, Z9 _ _ hp⟩, Z9 _ _ hq, ⟨_, y9, (hA.ext Z9).append A9, by rw [List.length_append]; omega, by rw [List.length_append]; show us.length + 5 ≤ _; omega⟩, (fun z => by subst z; rw [ZL _ _ hp] at n9; cases n9), nl, np⟩ (k.on Z9)
theorem bent2_read (T : Txt mg) (CT : Can P w K mg base "_law_take" 1 fT fdT ["pot", "wide"] spTake) (hr : Room 1 (XBe P w K mg base f cdv A outer s H0 E).A)
    {D : Ends} {H : Hp} {p q : Addr} {N at0 : Int} {ov : V} {oo : Ob} {ns : List Int} {v4 : Option V} (hN : 0 ≤ N) (hp : H p = some (.lst [.int N])) (hq : H q = some (.tup (ns.map V.int))) (nl : ns.length ≤ 22) (np : 0 < ns.length) (a0 : 0 ≤ at0) (a1 : at0 < ns.length) (ho : At H oo ov) (k : BK H p D.rt) :
    (bent2 T CT hr).1 D [some (.ref p), some (.ref q), some (.int at0), some ov, v4] H := by
  have hNum : ∀ {J : Hp}, Ext H J → At J (.tup (ns.map Ob.int)) (.ref q) := fun {J} e => at_tup (e _ _ hq) (by rw [List.length_map]; omega) (Ats.ints _)
  have l1 := cutV_length (ns.map V.int) none (some at0)
  have l2 := cutV_length (ns.map V.int) (some (at0 + 1)) none
  have l3 := cutV_length (ns.map V.int) none (some (-1))
  rw [List.length_map] at l1 l2 l3
  refine ⟨_, rfl, _, rfl, _, rfl, at0, rfl, q, _, rfl, hq, fun r1 J2 w2 x2 => ?_⟩
  refine ⟨_, rfl, (by show 1 ≤ sizeLine; decide), fun r2 J3 w3 x3 => ⟨r1, r2, _, _, rfl, rfl, x3 _ _ w2, w3, (by rw [PySem.sizeLine_eq, List.length_cons, List.length_nil]; omega), fun r3 J4 w4 x4 => ?_⟩⟩
  have Z4 := (x2.trans x3).trans x4
  refine ⟨_, rfl, _, rfl, _, _, rfl, rfl, _, rfl, q, _, rfl, Z4 _ _ hq, fun r4 J5 w5 x5 => ⟨r3, r4, _, _, rfl, rfl, x5 _ _ w4, w5, (by rw [PySem.sizeLine_eq, List.length_append, List.length_cons, List.length_nil]; omega), fun r5 J6 w6 x6 => ?_⟩⟩
  have Z6 := (Z4.trans x5).trans x6
  refine ⟨_, rfl, (by show 1 ≤ sizeLine; decide), fun r6 J8 w8 x8 => ⟨q, r6, _, _, rfl, rfl, (Z6.trans x8) _ _ hq, w8, (by rw [PySem.sizeLine_eq, List.length_map, List.length_cons, List.length_nil]; omega), fun r7 J9 w9 x9 => ?_⟩⟩
  have Z9 := (Z6.trans x8).trans x9
  refine ⟨_, rfl, _, rfl, -1, rfl, q, _, rfl, Z9 _ _ hq, fun r8 Ja wa xa => ?_⟩
  have Za := Z9.trans xa
  refine ⟨_, rfl, q, _, rfl, Za _ _ hq, fun r9 Jb wb xb _ => ?_⟩
  have Zb := Za.trans xb
  refine ⟨(by show 6 ≤ sizeLine; decide), fun l JL yl xl nl' => ?_⟩
  have ZL := Zb.trans xl
  obtain ⟨o1, q1, _⟩ := (Ats.ints (H := JL) ns).cutA none (some at0)
  obtain ⟨o2, q2, _⟩ := (Ats.ints (H := JL) ns).cutA (some (at0 + 1)) none
  obtain ⟨o3, q3, _⟩ := (Ats.ints (H := JL) ns).cutA none (some (-1))
  have A2 : At JL (.tup (o1 ++ [oo] ++ o2)) (.ref r5) := at_tup (((((x8.trans x9).trans xa).trans xb).trans xl) _ _ w6) (by rw [List.length_append, List.length_append, List.length_cons, List.length_nil]; omega) ((q1.append (ats1 (ho.ext ZL) (ats0 _))).append q2)
  have A3 : At JL (.tup (ns.map Ob.int ++ [.int 0])) (.ref r7) := at_tup (((xa.trans xb).trans xl) _ _ w9) (by rw [List.length_append, List.length_map, List.length_cons, List.length_nil]; omega) ((Ats.ints _).append (ats1 (at_int _ _) (ats0 _)))
  have A4 : At JL (.tup o3) (.ref r8) := at_tup ((xb.trans xl) _ _ wa) (by omega) q3
  exact bent3_read T CT hr ⟨⟨N, hN, ZL _ _ hp⟩, ZL _ _ hq, ⟨_, yl, .cons (hNum ZL) (.cons A2 (.cons A3 (.cons A4 (.cons (at_lst (xl _ _ wb)) (.cons (at_non _) (.nil _)))))), (by show 0 < 6; decide), (by show 6 ≤ 6; decide)⟩, (fun z => by subst z; rw [Zb _ _ hp] at nl'; cases nl'), nl, np⟩ (k.on ZL)
def spBent : Sp := fun vs H Q _ => ∃ (p q : Addr) (N : Int) (ns : List Int), vs = [.ref p, .ref q] ∧ H p = some (.lst [.int N]) ∧ 0 ≤ N ∧ H q = some (.tup (ns.map V.int)) ∧ ns.length ≤ 22 ∧ 0 < ns.length ∧ (∀ n ∈ ns, -100 ≤ n ∧ n ≤ 100) ∧ BK H p Q
theorem ok_bent {fd : FuncData} (F : Fun K "_law_bent" "_law_bent" sBent f fd) (T : Txt mg) (CT : Can P w K mg base "_law_take" 1 fT fdT ["pot", "wide"] spTake) : FnOk P w K mg base CX0 2 f fd ["pot", "numbers"] spBent := by
  refine F.ok scBent (fun vs H Q E h => ?_) (fun cdv A outer s H vs Q E hr h => ?_)
  · obtain ⟨_, _, _, _, rfl, _⟩ := h
    rfl
  · obtain ⟨p, q, N, ns, rfl, hp, hN, hq, nl, np, nb, k⟩ := h
    refine ⟨_, (bent0 T CT hr).2.h, ?_⟩
    refine ⟨_, rfl, _, rfl, q, _, rfl, .inr (SqT.of hq), p, N, _, rfl, hp, hN, by rw [List.length_map]; omega, by rw [List.length_map]; omega, fun N1 r1 a1 a2 a3 => ?_⟩
    rw [List.length_map] at a3
    have k1 : Keep H (upd H p (.lst [.int N1])) p := (Keep.refl _ _).upd _
    have hp1 : (upd H p (.lst [.int N1])) p = some (.lst [.int N1]) := upd_same
    have hq1 := (k1.tups hp) _ _ hq
    generalize upd H p (.lst [.int N1]) = H1 at k1 hp1 hq1 ⊢
    have hat := ns_at (ns := ns) a2 a3
    have hlog : (nAt ns r1).natAbs.log2 < 1920 := by
      have : -100 ≤ nAt ns r1 ∧ nAt ns r1 ≤ 100 := by
        have : ns[r1.toNat]? = some ns[r1.toNat] := List.getElem?_eq_getElem (by omega)
        unfold nAt
        rw [List.getD_eq_getElem?_getD, this]
        exact nb _ (List.getElem_mem _)
      by_cases z : (nAt ns r1).natAbs = 0
      · rw [z]; decide
      · have : (nAt ns r1).natAbs.log2 < 30 := (Nat.log2_lt z).mpr (by omega)
        omega
    refine ⟨_, rfl, _, rfl, q, _, _, _, rfl, rfl, SqT.of hq1, hat, _, _, rfl, rfl, _, rfl, _, rfl, q, _, _, _, rfl, rfl, SqT.of hq1, hat, _, _, rfl, rfl, _, rfl, _, rfl, q, _, _, _, rfl, rfl, SqT.of hq1, hat, _, rfl, hlog, (by show 1 ≤ sizeLine; decide), fun t0 J0 y0 x0 => ?_⟩
    refine ⟨(by show 8 ≤ sizeLine; decide), fun c J y x n => ?_⟩
    have X := x0.trans x
    refine ⟨_, rfl, p, N1, 8, rfl, X _ _ hp1, a1, by decide, by decide, fun N2 r2 b1 b2 b3 => ?_⟩
    have hpJ := X _ _ hp1
    have k2 : Keep J (upd J p (.lst [.int N2])) p := (Keep.refl _ _).upd _
    have hp2 : (upd J p (.lst [.int N2])) p = some (.lst [.int N2]) := upd_same
    have hq2 := (k2.tups hpJ) _ _ (X _ _ hq1)
    have y02 := (k2.tups hpJ) _ _ (x _ _ y0)
    have cp : c ≠ p := fun z => by subst z; rw [x0 _ _ hp1] at n; cases n
    have y2 := k2 _ _ y cp
    have K2 : Keep H (upd J p (.lst [.int N2])) p := fun c u h n => k2 _ _ (X _ _ (k1 c u h n)) n
    generalize upd J p (.lst [.int N2]) = H2 at k2 hp2 hq2 y2 K2 y02 ⊢
    have al : Alls H2 [V.int (nAt ns r1 + 1), .int (nAt ns r1 - 1000000000000000000000000000000), .non, .bl true, .str (toString (nAt ns r1)), .ref t0, .int 0, .int 1] := .cons (at_int _ _) (.cons (at_int _ _) (.cons (at_non _) (.cons (at_bl _ _) (.cons (at_str _ _) (.cons (at_tup y02 (by show 1 ≤ 100; decide) (ats1 (at_int _ _) (ats0 _))) (.cons (at_int _ _) (.cons (at_int _ _) (.nil _))))))))
    obtain ⟨ov, oo, hov, hoo⟩ := al.pick b2 (by show r2 < 8; exact b3)
    refine ⟨c, _, r2, ov, rfl, rfl, SqL.of y2, hov, ?_⟩
    exact bent2_read T CT hr b1 hp2 hq2 nl np a2 a3 hoo fun v o N' H' h1 h2 h3 h4 => k v o N' H' h1 h2 h3 (K2.trans h4)
end
end Eo
end
section
namespace L2
open PySem PyProof.Rows
theorem op_isB {X : Cx} : OpR X (compareOp .Is) (fun x y H Q => ∃ c d, x = .bl c ∧ y = .bl d ∧ Q (.bl (c == d)) H) := by
  intro pins s σ H x y v u Q I rx ry h
  obtain ⟨c, d, rfl, rfl, q⟩ := h
  cases rx
  cases ry
  exact is_bool ⟨.bl _, H, I, rfl, q⟩
theorem op_isnotB {X : Cx} : OpR X (compareOp .IsNot) (fun x y H Q => ∃ c d, x = .bl c ∧ y = .bl d ∧ Q (.bl (c != d)) H) := by
  intro pins s σ H x y v u Q I rx ry h
  obtain ⟨c, d, rfl, rfl, q⟩ := h
  cases rx
  cases ry
  exact isnot_bool ⟨.bl _, H, I, rfl, q⟩
end L2
namespace Eo
open PySem L2
structure WOk (H : Hp) (b q : Addr) (wi : Int) (ms : List Int) (pcs : List (List Int × Int)) (ns : List Int) : Prop where
  box : BoxAt H b wi ms pcs
  good : Good 16 32 wi ms pcs
  nums : H q = some (.tup (ns.map V.int))
  len : ns.length = pcs.length
  pos : 0 < ns.length
  l22 : ns.length ≤ 22
  bnd : ∀ n ∈ ns, -100 ≤ n ∧ n ≤ 100
  sum : ∀ t : Int, 0 ≤ t → t < wi → (wL ns pcs t pcs.length).sum = 1
theorem WOk.mono {H H' : Hp} {b q : Addr} {wi : Int} {ms : List Int} {pcs : List (List Int × Int)} {ns : List Int} (h : WOk H b q wi ms pcs ns) (t : Tups H H') : WOk H' b q wi ms pcs ns :=
  ⟨h.box.mono t, h.good, t _ _ h.nums, h.len, h.pos, h.l22, h.bnd, h.sum⟩
theorem PlOk.wok {H : Hp} {b q : Addr} {wi : Int} {pcs : List (List Int × Int)} {ns : List Int} (h : PlOk H b q wi pcs ns) : WOk H b q wi [] pcs ns :=
  ⟨h.box, h.good, h.nums, h.len, h.pos, h.l22, h.bnd, h.sum⟩
theorem mus_mem {ms : List Int} {n : Nat} {t : Int} (h : t ∈ mus ms n) : 0 ≤ t ∧ t < n := by
  unfold mus at h
  obtain ⟨i, hi, rfl⟩ := List.mem_map.mp h
  have := List.mem_range.mp (List.mem_filter.mp hi).1
  omega
theorem who_true {H : Hp} {b q : Addr} {wi : Int} {ms : List Int} {pcs : List (List Int × Int)} {ns : List Int} (h : WOk H b q wi ms pcs ns) : wholesB wi ms pcs (.tup (ns.map Ob.int)) = true := by
  have ev : (ns.map Ob.int).map valO = ns := by
    rw [List.map_map]
    exact List.map_id'' (fun _ => rfl) _
  have ea : (ns.map Ob.int).all isInt = true := by
    rw [List.all_eq_true]
    intro x hx
    obtain ⟨n, hn, rfl⟩ := List.mem_map.mp hx
    rfl
  show (decide ((ns.map Ob.int).length = pcs.length) && ((ns.map Ob.int).all isInt && onesB wi ms pcs ((ns.map Ob.int).map valO))) = true
  rw [ev, ea, List.length_map, decide_eq_true h.len, Bool.true_and, Bool.true_and]
  unfold onesB
  rw [List.all_eq_true]
  intro t ht
  have := mus_mem ht
  exact decide_eq_true (h.sum t this.1 (by omega))
theorem WOk.at {H : Hp} {b q : Addr} {wi : Int} {ms : List Int} {pcs : List (List Int × Int)} {ns : List Int} (h : WOk H b q wi ms pcs ns) : At H (.tup (ns.map Ob.int)) (.ref q) := by
  have := h.l22
  exact at_tup h.nums (by rw [List.length_map]; omega) (Ats.ints _)
abbrev nLaw : List Str := ["script", "k", "pot", "box", "numbers", "mays", "other", "thing", "found"]
theorem scLaw : FnScope nLaw ["script"] (defScope sLaw) := ⟨rfl, rfl, rfl, by decide +kernel, rfl, by decide +kernel, by decide +kernel⟩
section
variable {P : Program} {w : World} {K : PySem.W.Frag} {mg : Str → Option Value} {base : Heap}
variable {f fC fP fT fD fI fR fB : Addr} {fdC fdP fdT fdD fdI fdR fdB : FuncData} {cdv : Value} {A : Around} {outer : List Env} {s : Shared} {H0 : Hp} {E : XK}
abbrev XLaw (P : Program) (w : World) (K : PySem.W.Frag) (mg : Str → Option Value) (base : Heap) (f : Addr) (cdv : Value) (A : Around) (outer : List Env) (s : Shared) (H : Hp) (E : XK) : Cx := XOf nLaw "law" sLaw P w K mg base f cdv A outer s H E
abbrev lwBody : List Stmt := loopOf ((defBody sLaw).getD 0 (.Pass ⟨0, 0, 0, 0⟩))
def innA (T : Txt mg) (CC : Can P w K mg base "_law_cell_at" 1 fC fdC ["script", "k"] (spCell K)) (CP : Can P w K mg base "_law_pot" 1 fP fdP ["cell"] spPot) (CT : Can P w K mg base "_law_take" 1 fT fdT ["pot", "wide"] spTake) (CD : Can P w K mg base "_law_planted" 3 fD fdD ["pot", "most_things", "most_pieces"] spPlanted) (CI : Can P w K mg base "are_wholes" 2 fI fdI ["box", "thing"] spWho) (CR : Can P w K mg base "_law_wholes_right" 2 fR fdR ["box", "thing"] spWho) (CB : Can P w K mg base "_law_bent" 2 fB fdB ["pot", "numbers"] spBent) (hr : Room 3 (XLaw P w K mg base f cdv A outer s H0 E).A) : { t : TS // JSs (XLaw P w K mg base f cdv A outer s H0 E) (loopOf (lwBody.getD 3 (.Pass ⟨0, 0, 0, 0⟩))) t } :=
  have nd := scLaw.nd
  ⟨_, (jss_cons (js_if (jt_cmpR op_isnotB (CI.je (hr.mono (by decide)) (gl_d (by decide +kernel)) (ja_cons (jv 6 rfl (vis_l (by decide +kernel))) (ja_cons (jv 4 rfl (vis_l (by decide +kernel))) ja_nil se_name) se_name) se_name) (je_bl) (nomark _)) (jss_one (js_ret (je_bl))) jss_nil)
      (jss_cons (js_set (i := 7) nd rfl (loc_l (by decide +kernel)) (CB.je (hr.mono (by decide)) (gl_d (by decide +kernel)) (ja_cons (jv 2 rfl (vis_c (by decide +kernel))) (ja_cons (jv 4 rfl (vis_l (by decide +kernel))) ja_nil se_name) se_name) se_name) sw_call)
      (jss_cons (js_set (i := 8) nd rfl (loc_l (by decide +kernel)) (CI.je (hr.mono (by decide)) (gl_d (by decide +kernel)) (ja_cons (jv 6 rfl (vis_l (by decide +kernel))) (ja_cons (jv 7 rfl (vis_l (by decide +kernel))) ja_nil se_name) se_name) se_name) sw_call)
      (jss_one (js_if (jt_w (jw_or (jt_not (jt_val (je_callB call_isinst (gl_d (by decide +kernel)) T.isinstance (by decide +kernel) (ja_cons (jv 8 rfl (vis_l (by decide +kernel))) (ja_cons (je_bltn (v := .ty "bool") (gl_d (by decide +kernel)) T.bool (by decide +kernel) rfl) ja_nil se_name) se_name) se_name) tv_call)) (jw_or1 (jt_cmpR op_ne (jv 8 rfl (vis_l (by decide +kernel))) (CR.je (hr.mono (by decide)) (gl_d (by decide +kernel)) (ja_cons (jv 6 rfl (vis_l (by decide +kernel))) (ja_cons (jv 7 rfl (vis_l (by decide +kernel))) ja_nil se_name) se_name) se_name) (nomark _))))) (jss_one (js_ret (je_bl))) jss_nil)))))⟩
def turnB (T : Txt mg) (CC : Can P w K mg base "_law_cell_at" 1 fC fdC ["script", "k"] (spCell K)) (CP : Can P w K mg base "_law_pot" 1 fP fdP ["cell"] spPot) (CT : Can P w K mg base "_law_take" 1 fT fdT ["pot", "wide"] spTake) (CD : Can P w K mg base "_law_planted" 3 fD fdD ["pot", "most_things", "most_pieces"] spPlanted) (CI : Can P w K mg base "are_wholes" 2 fI fdI ["box", "thing"] spWho) (CR : Can P w K mg base "_law_wholes_right" 2 fR fdR ["box", "thing"] spWho) (CB : Can P w K mg base "_law_bent" 2 fB fdB ["pot", "numbers"] spBent) (hr : Room 3 (XLaw P w K mg base f cdv A outer s H0 E).A) : { t : TS // JSs (XLaw P w K mg base f cdv A outer s H0 E) (lwBody.drop 3) t } :=
  have nd := scLaw.nd
  ⟨_, (jss_one (js_for PassesOwn.never rfl (ji_list (je_lstU (ja_cons (jv 3 rfl (vis_l (by decide +kernel))) (ja_cons (je_tupU (ja_cons (je_ix ix_tup (jv 3 rfl (vis_l (by decide +kernel))) (je_int) px_const) (ja_cons (jv 5 rfl (vis_l (by decide +kernel))) (ja_cons (je_ix ix_tup (jv 3 rfl (vis_l (by decide +kernel))) (je_int) px_const) ja_nil se_sub) se_name) se_sub)) ja_nil se_tup) se_name))) (jg_name (i := 6) nd rfl (loc_l (by decide +kernel))) (innA T CC CP CT CD CI CR CB hr).2 fo_lst))⟩
def turnA (T : Txt mg) (CC : Can P w K mg base "_law_cell_at" 1 fC fdC ["script", "k"] (spCell K)) (CP : Can P w K mg base "_law_pot" 1 fP fdP ["cell"] spPot) (CT : Can P w K mg base "_law_take" 1 fT fdT ["pot", "wide"] spTake) (CD : Can P w K mg base "_law_planted" 3 fD fdD ["pot", "most_things", "most_pieces"] spPlanted) (CI : Can P w K mg base "are_wholes" 2 fI fdI ["box", "thing"] spWho) (CR : Can P w K mg base "_law_wholes_right" 2 fR fdR ["box", "thing"] spWho) (CB : Can P w K mg base "_law_bent" 2 fB fdB ["pot", "numbers"] spBent) (hr : Room 3 (XLaw P w K mg base f cdv A outer s H0 E).A) : { t : TS // JSs (XLaw P w K mg base f cdv A outer s H0 E) lwBody t } :=
  have nd := scLaw.nd
  ⟨_, (jss_cons (js_set (i := 2) nd rfl (loc_c (by decide +kernel)) (CP.je (hr.mono (by decide)) (gl_d (by decide +kernel)) (ja_cons (CC.je (hr.mono (by decide)) (gl_d (by decide +kernel)) (ja_cons (jv 0 rfl (vis_l (by decide +kernel))) (ja_cons (jv 1 rfl (vis_l (by decide +kernel))) ja_nil se_name) se_name) se_name) ja_nil se_call) se_call) sw_call) (jss_cons (js_asg (CD.je hr (gl_d (by decide +kernel)) (ja_cons (jv 2 rfl (vis_c (by decide +kernel))) (ja_cons (je_int) (ja_cons (je_int) ja_nil se_const) se_const) se_name) se_name) (jg_twoL_d (i := 3) (j := 4) nd rfl rfl (by decide +kernel) (by decide +kernel))) (jss_cons (js_set (i := 5) nd rfl (loc_l (by decide +kernel)) (je_callTy call_tuple_of (gl_d (by decide +kernel)) T.tuple (by decide +kernel) (ja_cons (je_comp (m := [none, some 2]) (Nc := ["thing", "pot"]) rfl (ji_range1 (gl_d (by decide +kernel)) T.range (ja_cons (je_ix ix_tup (jv 3 rfl (vis_l (by decide +kernel))) (je_int) px_const) ja_nil se_sub) se_sub) rfl (by decide +kernel) (by decide +kernel) (free_ok (psc := defScope sLaw) (by decide +kernel)) (freeAt_ok (N := nLaw) rfl rfl (by decide +kernel)) (fun cl C fp s H => jg_name (i := 0) (show (["thing", "pot"] : List Str).Nodup by decide +kernel) rfl (loc_b (by decide +kernel))) (fun cl C fp s H => jts_one (jt_cmpR op_eq (CT.je (hr.mono (by decide)) (gl_b (by decide +kernel)) (ja_cons (jv 1 rfl (vis_bf (by decide +kernel))) (ja_cons (je_int) ja_nil se_const) se_name) se_name) (je_int) (nomark _))) (fun cl C fp s H => (jv 0 rfl (vis_bl (by decide +kernel)))) fo_call) ja_nil se_comp) se_comp) sw_call) (turnB T CC CP CT CD CI CR CB hr).2)))⟩
def lawA (T : Txt mg) (CC : Can P w K mg base "_law_cell_at" 1 fC fdC ["script", "k"] (spCell K)) (CP : Can P w K mg base "_law_pot" 1 fP fdP ["cell"] spPot) (CT : Can P w K mg base "_law_take" 1 fT fdT ["pot", "wide"] spTake) (CD : Can P w K mg base "_law_planted" 3 fD fdD ["pot", "most_things", "most_pieces"] spPlanted) (CI : Can P w K mg base "are_wholes" 2 fI fdI ["box", "thing"] spWho) (CR : Can P w K mg base "_law_wholes_right" 2 fR fdR ["box", "thing"] spWho) (CB : Can P w K mg base "_law_bent" 2 fB fdB ["pot", "numbers"] spBent) (hr : Room 3 (XLaw P w K mg base f cdv A outer s H0 E).A) : { t : TS // JSs (XLaw P w K mg base f cdv A outer s H0 E) (defBody sLaw) t } :=
  have nd := scLaw.nd
  ⟨_, (jss_cons (js_for PassesOwn.never rfl (ji_range1 (gl_d (by decide +kernel)) T.range (ja_cons (je_callB (call_max2 rfl) (gl_d (by decide +kernel)) T.max (by decide +kernel) (ja_cons (je_int) (ja_cons (je_callB (call_min2 rfl) (gl_d (by decide +kernel)) T.min (by decide +kernel) (ja_cons (je_callB call_len_seq (gl_d (by decide +kernel)) T.len (by decide +kernel) (ja_cons (jv 0 rfl (vis_l (by decide +kernel))) ja_nil se_name) se_name) (ja_cons (je_int) ja_nil se_const) se_call) se_call) ja_nil se_call) se_const) se_const) ja_nil se_call) se_call) (jg_name (i := 1) nd rfl (loc_l (by decide +kernel))) (turnA T CC CP CT CD CI CR CB hr).2 fo_call) (jss_one (js_ret ((je_and (je_cmpR op_isB (CI.je (hr.mono (by decide)) (gl_d (by decide +kernel)) (ja_cons (je_tupU (ja_cons (je_int) (ja_cons (je_tupU ja_nil) (ja_cons (je_tupU ja_nil) ja_nil se_tup) se_tup) se_const)) (ja_cons (je_tupU ja_nil) ja_nil se_tup) se_tup) se_tup) (je_bl) (nomark _)) (je_one (je_cmpR op_isB (CI.je (hr.mono (by decide)) (gl_d (by decide +kernel)) (ja_cons (je_tupU (ja_cons (je_int) (ja_cons (je_tupU ja_nil) (ja_cons (je_tupU ja_nil) ja_nil se_tup) se_tup) se_const)) (ja_cons (je_tupU ja_nil) ja_nil se_tup) se_tup) se_tup) (je_bl) (nomark _))))))))⟩
theorem inn_read (T : Txt mg) (CC : Can P w K mg base "_law_cell_at" 1 fC fdC ["script", "k"] (spCell K)) (CP : Can P w K mg base "_law_pot" 1 fP fdP ["cell"] spPot) (CT : Can P w K mg base "_law_take" 1 fT fdT ["pot", "wide"] spTake) (CD : Can P w K mg base "_law_planted" 3 fD fdD ["pot", "most_things", "most_pieces"] spPlanted) (CI : Can P w K mg base "are_wholes" 2 fI fdI ["box", "thing"] spWho) (CR : Can P w K mg base "_law_wholes_right" 2 fR fdR ["box", "thing"] spWho) (CB : Can P w K mg base "_law_bent" 2 fB fdB ["pot", "numbers"] spBent) (hr : Room 3 (XLaw P w K mg base f cdv A outer s H0 E).A)
    {D : Ends} {H : Hp} {a p b q : Addr} {N wi : Int} {ms : List Int} {pcs : List (List Int × Int)} {ns : List Int} {v1 v3 v5 v7 v8 : Option V} (hp : H p = some (.lst [.int N])) (hN : 0 ≤ N) (h : WOk H b q wi ms pcs ns)
    (nx : ∀ H' v7 v8 N', Keep H H' p → H' p = some (.lst [.int N']) → 0 ≤ N' → D.nx [some (.ref a), v1, some (.ref p), v3, some (.ref q), v5, some (.ref b), v7, v8] H') :
    (innA T CC CP CT CD CI CR CB hr).1 D [some (.ref a), v1, some (.ref p), v3, some (.ref q), v5, some (.ref b), v7, v8] H := by
  refine ⟨_, rfl, _, rfl, b, .ref q, _, wi, ms, pcs, rfl, h.box, h.good, h.at, fun H1 e1 => ?_⟩
  rw [who_true h]
  refine ⟨_, _, rfl, rfl, _, rfl, iteF ?_⟩
  have h1 := h.mono e1.tups
  refine ⟨_, rfl, _, rfl, p, q, N, ns, rfl, e1 _ _ hp, hN, h1.nums, h.l22, h.pos, h.bnd, fun v o N2 H2 hA hp2 n2 k2 => ?_⟩
  have t2 : Tups H1 H2 := k2.tups (e1 _ _ hp)
  have h2 := h1.mono t2
  refine ⟨_, rfl, _, rfl, b, v, o, wi, ms, pcs, rfl, h2.box, h.good, hA, fun H3 e3 => ?_⟩
  refine ⟨_, rfl, _, _, _, true, rfl, .bl _, rfl, _, rfl, iteF ?_⟩
  refine ⟨_, rfl, _, rfl, _, rfl, b, v, o, wi, ms, pcs, rfl, h2.box.mono e3.tups, h.good, hA.ext e3, fun H4 e4 => ⟨rfl, _, rfl, iteNS rfl ?_⟩⟩
  exact nx H4 _ _ N2 (fun c u h n => e4 _ _ (e3 _ _ (k2 _ _ (e1 _ _ h) n))) (e4 _ _ (e3 _ _ hp2)) n2
theorem turnB_read (T : Txt mg) (CC : Can P w K mg base "_law_cell_at" 1 fC fdC ["script", "k"] (spCell K)) (CP : Can P w K mg base "_law_pot" 1 fP fdP ["cell"] spPot) (CT : Can P w K mg base "_law_take" 1 fT fdT ["pot", "wide"] spTake) (CD : Can P w K mg base "_law_planted" 3 fD fdD ["pot", "most_things", "most_pieces"] spPlanted) (CI : Can P w K mg base "are_wholes" 2 fI fdI ["box", "thing"] spWho) (CR : Can P w K mg base "_law_wholes_right" 2 fR fdR ["box", "thing"] spWho) (CB : Can P w K mg base "_law_bent" 2 fB fdB ["pot", "numbers"] spBent) (hr : Room 3 (XLaw P w K mg base f cdv A outer s H0 E).A)
    {D : Ends} {H1 : Hp} {a p b q qm : Addr} {N wi : Int} {pcs : List (List Int × Int)} {ns ms : List Int} {v1 v6 v7 v8 : Option V} (hp : H1 p = some (.lst [.int N])) (hN : 0 ≤ N) (h : PlOk H1 b q wi pcs ns) (hm : H1 qm = some (.tup (ms.map V.int))) (rm : Ris wi ms)
    (nx : ∀ H' v6 v7 v8, Keep H1 H' p → D.nx [some (.ref a), v1, some (.ref p), some (.ref b), some (.ref q), some (.ref qm), v6, v7, v8] H') :
    (turnB T CC CP CT CD CI CR CB hr).1 D [some (.ref a), v1, some (.ref p), some (.ref b), some (.ref q), some (.ref qm), v6, v7, v8] H1 := by
  obtain ⟨qe, qp, ps, b1, b2, b3, b4⟩ := h.box.ex
  have g := h.good
  refine ⟨_, rfl, _, rfl, b, _, 0, _, rfl, rfl, SqT.of b1, rfl, _, rfl, _, rfl, b, _, 2, _, rfl, rfl, SqT.of b1, rfl, (by show 3 ≤ sizeLine; decide), fun b' G2 y2 x2 => ⟨(by show 2 ≤ sizeLine; decide), fun l J yl xl _ => ?_⟩⟩
  have ZJ := x2.trans xl
  have hpJ := ZJ _ _ hp
  have lp : l ≠ p := fun z => by
    subst z
    rw [hpJ] at yl
    cases yl
  have A1 : WOk J b q wi [] pcs ns := (h.mono ZJ.tups).wok
  have A2 : WOk J b' q wi ms pcs ns := ⟨⟨qm, qp, ps, xl _ _ y2, ZJ _ _ hm, ZJ _ _ b3, b4.mono ZJ.tups⟩, ⟨g.w0, g.w1, rm, g.pl, g.pg⟩, ZJ _ _ h.nums, h.len, h.pos, h.l22, h.bnd, h.sum⟩
  have PO : ∀ x ∈ [V.ref b, V.ref b'], ∃ b ms, x = .ref b ∧ WOk J b q wi ms pcs ns := fun x hx => by
    rcases List.mem_cons.mp hx with rfl | hx
    · exact ⟨b, [], rfl, A1⟩
    · cases List.mem_singleton.mp hx
      exact ⟨b', ms, rfl, A2⟩
  refine ⟨l, rfl, ⟨_, SqL.of yl⟩, for_list (xs := [.ref b, .ref b']) (fun i σ H' => (∃ v6 v7 v8, σ = [some (.ref a), v1, some (.ref p), some (.ref b), some (.ref q), some (.ref qm), v6, v7, v8]) ∧ (∃ N' : Int, 0 ≤ N' ∧ H' p = some (.lst [.int N'])) ∧ Keep J H' p) ⟨⟨_, _, _, rfl⟩, ⟨N, hN, hpJ⟩, Keep.refl _ _⟩ (fun i σ H' _ ⟨_, _, kk⟩ => SqL.of (kk _ _ yl lp)) ?_ ?_⟩
  · rintro i x σ H' hx ⟨⟨v6, v7, v8, rfl⟩, ⟨N', n', hp'⟩, kk⟩
    obtain ⟨bb, ms', rfl, e2⟩ := PO x (List.mem_of_getElem? hx)
    have tt : Tups J H' := kk.tups hpJ
    exact inn_read T CC CP CT CD CI CR CB hr hp' n' (e2.mono tt) fun H'' v12 v13 N'' k1 k2 k3 => ⟨⟨_, _, _, rfl⟩, ⟨N'', k3, k2⟩, kk.trans k1⟩
  · rintro σ H' ⟨⟨v6, v7, v8, rfl⟩, _, kk⟩
    exact nx H' _ _ _ fun c u h n => kk _ _ (ZJ _ _ h) n
theorem turn_read (T : Txt mg) (CC : Can P w K mg base "_law_cell_at" 1 fC fdC ["script", "k"] (spCell K)) (CP : Can P w K mg base "_law_pot" 1 fP fdP ["cell"] spPot) (CT : Can P w K mg base "_law_take" 1 fT fdT ["pot", "wide"] spTake) (CD : Can P w K mg base "_law_planted" 3 fD fdD ["pot", "most_things", "most_pieces"] spPlanted) (CI : Can P w K mg base "are_wholes" 2 fI fdI ["box", "thing"] spWho) (CR : Can P w K mg base "_law_wholes_right" 2 fR fdR ["box", "thing"] spWho) (CB : Can P w K mg base "_law_bent" 2 fB fdB ["pot", "numbers"] spBent) (hr : Room 3 (XLaw P w K mg base f cdv A outer s H0 E).A)
    {D : Ends} {H : Hp} {a : Addr} {sn : List Int} {k : Int} {v2 v3 v4 v5 v6 v7 v8 : Option V} (hS : SqL K H a (sn.map V.int)) (k0 : 0 ≤ k)
    (nx : ∀ H' v2 v3 v4 v5 v6 v7 v8, Ext H H' → D.nx [some (.ref a), some (.int k), v2, v3, v4, v5, v6, v7, v8] H') :
    (turnA T CC CP CT CD CI CR CB hr).1 D [some (.ref a), some (.int k), v2, v3, v4, v5, v6, v7, v8] H := by
  refine ⟨_, rfl, _, rfl, a, sn, k, rfl, hS, k0, fun cc => ?_⟩
  refine ⟨cc, rfl, fun p N hpn hN => ?_⟩
  have e0 : Ext H (upd H p (.lst [.int N])) := (Ext.refl _).new hpn _
  have hp0 : (upd H p (.lst [.int N])) p = some (.lst [.int N]) := upd_same
  generalize upd H p (.lst [.int N]) = H1 at e0 hp0 ⊢
  refine ⟨_, rfl, p, N, rfl, hp0, hN, fun l b q wi pcs ns N1 H2 hl hu hp2 n1 k2 => ?_⟩
  refine ⟨l, _, rfl, SqL.of hl, rfl, _, _, rfl, _, _, rfl, rfl, ?_⟩
  have K2 : Ext H H2 := fun c u h => k2 _ _ (e0 _ _ h) (ne_of_none h hpn)
  obtain ⟨qe, qp, ps, b1, b2, b3, b4⟩ := hu.box.ex
  have w0 := hu.good.w0
  have w12 := hu.w12
  refine ⟨_, rfl, b, _, 0, _, rfl, rfl, SqT.of b1, rfl, wi, rfl, by omega, by omega, comp_rng (n := wi.toNat) (by rw [PySem.sizeLine_eq]; omega) (fun D j σ' H' zs => (∃ v, σ' = [v, some (.ref p)]) ∧ (∃ ys : List Int, zs = ys.map V.int ∧ ys.length ≤ j ∧ ys.Pairwise (· < ·) ∧ ∀ y ∈ ys, 0 ≤ y ∧ y < j) ∧ (∃ N' : Int, 0 ≤ N' ∧ H' p = some (.lst [.int N'])) ∧ Keep H2 H' p ∧ H' D = some (.lst zs) ∧ H2 D = none) ?_ ?_ ?_ ?_⟩
  · intro D hD
    have pD : p ≠ D := ne_of_none hp2 hD
    exact ⟨⟨_, rfl⟩, ⟨[], rfl, Nat.le_refl _, List.Pairwise.nil, fun n hn => by cases hn⟩, ⟨N1, n1, by rw [upd_ne pD]; exact hp2⟩, (Keep.refl _ _).new hD _, upd_same, hD⟩
  · rintro D j σ' H' zs hD hj ⟨_, ⟨ys, rfl, nl, _⟩, _, _, h2, _⟩
    exact ⟨h2, by rw [List.length_map]; omega⟩
  · rintro D j σ' H' zs hD hj ⟨⟨v, rfl⟩, ⟨ys, rfl, nl, nr, nb⟩, ⟨N4, n4, hp4⟩, kk, h2, hn⟩
    have pD : p ≠ D := ne_of_none hp2 hn
    refine ⟨_, rfl, p, N4, 4, rfl, hp4, n4, by decide, by decide, fun N5 r5 c1 c2 c3 => ?_⟩
    have k5 : Keep H2 (upd H' p (.lst [.int N5])) p := kk.trans ((Keep.refl _ _).upd _)
    have h25 : (upd H' p (.lst [.int N5])) D = some (.lst (ys.map V.int)) := by rw [upd_ne (Ne.symm pD)]; exact h2
    have hp5 : (upd H' p (.lst [.int N5])) p = some (.lst [.int N5]) := upd_same
    generalize upd H' p (.lst [.int N5]) = H5 at k5 h25 hp5 ⊢
    refine ⟨rfl, _, rfl, ?_⟩
    refine ite2 (fun hy => ?_) (fun hy => ?_)
    · refine ⟨_, rfl, h25, ⟨_, rfl⟩, ⟨ys ++ [(j : Int)], by rw [Int.zero_add, List.map_append]; rfl, by rw [List.length_append, List.length_singleton]; omega, List.pairwise_append.mpr ⟨nr, List.pairwise_singleton _ _, fun x hx y hy => ?_⟩, fun n hn' => ?_⟩, ⟨N5, c1, by rw [upd_ne pD]; exact hp5⟩, fun c u h n => ?_, upd_same, hn⟩
      · cases List.mem_singleton.mp hy
        exact (nb x hx).2
      · rcases List.mem_append.mp hn' with z | z
        · have := nb n z
          omega
        · cases List.mem_singleton.mp z
          omega
      · rw [upd_ne (ne_of_none h hn)]
        exact k5 c u h n
    · exact ⟨⟨_, rfl⟩, ⟨ys, rfl, by omega, nr, fun n hn' => by have := nb n hn'; omega⟩, ⟨N5, c1, hp5⟩, k5, h25, hn⟩
  · rintro nl σ' H4 zs hD ⟨_, ⟨ys, rfl, nlen, nr, nb⟩, ⟨N4, n4, hp4⟩, kk, h2, hn⟩
    refine ⟨nl, _, rfl, .inl ⟨SqL.of h2, fun t0 ht0 => ?_⟩⟩
    have x3 : Ext H4 (upd H4 t0 (.tup (ys.map V.int))) := (Ext.refl _).new ht0 _
    have y3 : (upd H4 t0 (.tup (ys.map V.int))) t0 = some (.tup (ys.map V.int)) := upd_same
    generalize upd H4 t0 (.tup (ys.map V.int)) = G3 at x3 y3 ⊢
    exact turnB_read T CC CP CT CD CI CR CB hr (x3 _ _ hp4) n4 ((hu.mono (kk.tups hp2)).mono x3.tups) y3 ⟨nr, fun z hz => by have := nb z hz; omega⟩ fun H' v6 v7 v8 k' => nx H' _ _ _ _ _ _ _ fun c u h => k' _ _ (x3 _ _ (kk _ _ (K2 _ _ h) (ne_of_none h hpn))) (ne_of_none h hpn)
def spLaw (K : PySem.W.Frag) : Sp := fun vs H Q _ => ∃ (a : Addr) (ns : List Int), vs = [.ref a] ∧ SqL K H a (ns.map V.int) ∧ ns.length ≤ 63 ∧ ∀ H', Q (.bl true) H'
theorem ok_law {fd : FuncData} (F : Fun K "law" "law" sLaw f fd) (T : Txt mg) (CC : Can P w K mg base "_law_cell_at" 1 fC fdC ["script", "k"] (spCell K)) (CP : Can P w K mg base "_law_pot" 1 fP fdP ["cell"] spPot) (CT : Can P w K mg base "_law_take" 1 fT fdT ["pot", "wide"] spTake) (CD : Can P w K mg base "_law_planted" 3 fD fdD ["pot", "most_things", "most_pieces"] spPlanted) (CI : Can P w K mg base "are_wholes" 2 fI fdI ["box", "thing"] spWho) (CR : Can P w K mg base "_law_wholes_right" 2 fR fdR ["box", "thing"] spWho) (CB : Can P w K mg base "_law_bent" 2 fB fdB ["pot", "numbers"] spBent) : FnOk P w K mg base CX0 4 f fd ["script"] (spLaw K) := by
  refine F.ok scLaw (fun vs H Q E h => ?_) (fun cdv A outer s H vs Q E hr h => ?_)
  · obtain ⟨_, _, rfl, _⟩ := h
    rfl
  · obtain ⟨a, ns, rfl, hS, hlen, k⟩ := h
    refine ⟨_, (lawA T CC CP CT CD CI CR CB hr).2.h, ?_⟩
    refine ⟨_, rfl, a, _, rfl, .inl hS, _, _, rfl, _, _, rfl, _, rfl, ?_, ?_, for_range (fun i σ H2 => (∃ v1 v2 v3 v4 v5 v6 v7 v8, σ = [some (.ref a), v1, v2, v3, v4, v5, v6, v7, v8]) ∧ Ext H H2) ⟨⟨_, _, _, _, _, _, _, _, rfl⟩, Ext.refl H⟩ ?_ ?_⟩
    · split <;> split <;> omega
    · rw [List.length_map]
      split <;> split <;> omega
    · rintro i σ H2 hi ⟨⟨v1, v2, v3, v4, v5, v6, v7, v8, rfl⟩, x⟩
      exact turn_read T CC CP CT CD CI CR CB hr (x.seq hS) (by omega) fun H' v2 v3 v4 v5 v6 v7 v8 x' => ⟨⟨_, _, _, _, _, _, _, _, rfl⟩, x.trans x'⟩
    · rintro σ H2 ⟨⟨v1, v2, v3, v4, v5, v6, v7, v8, rfl⟩, x⟩
      have z0 : ([] : List V).length ≤ sizeLine := Nat.zero_le _
      refine ⟨z0, fun t1 G1 u1 x1 => ⟨z0, fun t2 G2 u2 x2 => ⟨(by show 3 ≤ sizeLine; decide), fun t3 G3 u3 x3 => ⟨z0, fun t4 G4 u4 x4 => ?_⟩⟩⟩⟩
      refine ⟨t3, .ref t4, .tup [], 0, [], [], rfl, ⟨t1, t2, [], x4 _ _ u3, (x3.trans x4) _ _ (x2 _ _ u1), (x3.trans x4) _ _ u2, trivial⟩, ⟨by decide, by decide, Ris.nil 0, by decide, fun pc h => by cases h⟩, at_tup u4 (by show 0 ≤ 100; decide) (ats0 _), fun G6 x6 => ⟨true, true, rfl, rfl, _, rfl, iteT ?_⟩⟩
      refine ⟨z0, fun t1 G1 u1 x1 => ⟨z0, fun t2 G2 u2 x2 => ⟨(by show 3 ≤ sizeLine; decide), fun t3 G3 u3 x3 => ⟨z0, fun t4 G4 u4 x4 => ?_⟩⟩⟩⟩
      refine ⟨t3, .ref t4, .tup [], 1, [], [], rfl, ⟨t1, t2, [], x4 _ _ u3, (x3.trans x4) _ _ (x2 _ _ u1), (x3.trans x4) _ _ u2, trivial⟩, ⟨by decide, by decide, Ris.nil 1, by decide, fun pc h => by cases h⟩, at_tup u4 (by show 0 ≤ 100; decide) (ats0 _), fun G7 x7 => ⟨false, false, ?_, rfl, k G7⟩⟩
      rfl
end
end Eo
end
section
namespace Eo
open PySem L2
set_option maxHeartbeats 8000000 in
theorem all_mk {l : PySem.W.OpenLaw} {w : World} {K : PySem.W.Frag} {h : Heap} {mg : Str → Option Value} {fa f1 f2 f3 f4 f5 f6 f7 f8 f9 f10 f11 f12 f13 : Addr} (X : K.In h) (G : h.Ns mainGlobals mg) (hfa : mg "law" = some (.ref fa))
    {od1 an1 od2 an2 od3 an3 od4 an4 od5 an5 od6 an6 od7 an7 od8 an8 od9 an9 od10 an10 od11 an11 od12 an12 od13 an13 : Option Addr} {sl1 sl2 sl3 sl4 sl5 sl6 sl7 sl8 sl9 sl10 sl11 sl12 sl13 : Array (Option Value)} {oc1 kV1 dc1 pm1 cd1 ct1 oc2 kV2 dc2 pm2 cd2 ct2 oc3 kV3 dc3 pm3 cd3 ct3 oc4 kV4 dc4 pm4 cd4 ct4 oc5 kV5 dc5 pm5 cd5 ct5 oc6 kV6 dc6 pm6 cd6 ct6 oc7 kV7 dc7 pm7 cd7 ct7 oc8 kV8 dc8 pm8 cd8 ct8 oc9 kV9 dc9 pm9 cd9 ct9 oc10 kV10 dc10 pm10 cd10 ct10 oc11 kV11 dc11 pm11 cd11 ct11 oc12 kV12 dc12 pm12 cd12 ct12 oc13 kV13 dc13 pm13 cd13 ct13 : Value} 
    (a1 : PySem.W.nsIn K mainGlobals "is_whole" = some (some (.ref f1))) (l1 : K.lookup f1 = some ⟨oc1, od1, .func (PySem.W.fnOf "is_whole" "is_whole" (defArgs sWhole0) (defBody sWhole0) (defScope sWhole0) .none kV1 dc1 pm1 an1 cd1 ct1), sl1⟩) (c1 : PySem.W.codeIn K cd1 "is_whole" = true) (k1 : PySem.W.keepIn K (.ref f1) = true)
    (a2 : PySem.W.nsIn K mainGlobals "musts_of" = some (some (.ref f2))) (l2 : K.lookup f2 = some ⟨oc2, od2, .func (PySem.W.fnOf "musts_of" "musts_of" (defArgs sMusts) (defBody sMusts) (defScope sMusts) .none kV2 dc2 pm2 an2 cd2 ct2), sl2⟩) (c2 : PySem.W.codeIn K cd2 "musts_of" = true) (k2 : PySem.W.keepIn K (.ref f2) = true)
    (a3 : PySem.W.nsIn K mainGlobals "are_wholes" = some (some (.ref f3))) (l3 : K.lookup f3 = some ⟨oc3, od3, .func (PySem.W.fnOf "are_wholes" "are_wholes" (defArgs sAre) (defBody sAre) (defScope sAre) .none kV3 dc3 pm3 an3 cd3 ct3), sl3⟩) (c3 : PySem.W.codeIn K cd3 "are_wholes" = true) (k3 : PySem.W.keepIn K (.ref f3) = true)
    (a4 : PySem.W.nsIn K mainGlobals "_law_cell_at" = some (some (.ref f4))) (l4 : K.lookup f4 = some ⟨oc4, od4, .func (PySem.W.fnOf "_law_cell_at" "_law_cell_at" (defArgs sCell) (defBody sCell) (defScope sCell) .none kV4 dc4 pm4 an4 cd4 ct4), sl4⟩) (c4 : PySem.W.codeIn K cd4 "_law_cell_at" = true) (k4 : PySem.W.keepIn K (.ref f4) = true)
    (a5 : PySem.W.nsIn K mainGlobals "_law_pot" = some (some (.ref f5))) (l5 : K.lookup f5 = some ⟨oc5, od5, .func (PySem.W.fnOf "_law_pot" "_law_pot" (defArgs sPot) (defBody sPot) (defScope sPot) .none kV5 dc5 pm5 an5 cd5 ct5), sl5⟩) (c5 : PySem.W.codeIn K cd5 "_law_pot" = true) (k5 : PySem.W.keepIn K (.ref f5) = true)
    (a6 : PySem.W.nsIn K mainGlobals "_law_take" = some (some (.ref f6))) (l6 : K.lookup f6 = some ⟨oc6, od6, .func (PySem.W.fnOf "_law_take" "_law_take" (defArgs sTake) (defBody sTake) (defScope sTake) .none kV6 dc6 pm6 an6 cd6 ct6), sl6⟩) (c6 : PySem.W.codeIn K cd6 "_law_take" = true) (k6 : PySem.W.keepIn K (.ref f6) = true)
    (a7 : PySem.W.nsIn K mainGlobals "_law_lot" = some (some (.ref f7))) (l7 : K.lookup f7 = some ⟨oc7, od7, .func (PySem.W.fnOf "_law_lot" "_law_lot" (defArgs sLot) (defBody sLot) (defScope sLot) .none kV7 dc7 pm7 an7 cd7 ct7), sl7⟩) (c7 : PySem.W.codeIn K cd7 "_law_lot" = true) (k7 : PySem.W.keepIn K (.ref f7) = true)
    (a8 : PySem.W.nsIn K mainGlobals "_law_planted" = some (some (.ref f8))) (l8 : K.lookup f8 = some ⟨oc8, od8, .func (PySem.W.fnOf "_law_planted" "_law_planted" (defArgs sPlanted) (defBody sPlanted) (defScope sPlanted) .none kV8 dc8 pm8 an8 cd8 ct8), sl8⟩) (c8 : PySem.W.codeIn K cd8 "_law_planted" = true) (k8 : PySem.W.keepIn K (.ref f8) = true)
    (a9 : PySem.W.nsIn K mainGlobals "_law_musts" = some (some (.ref f9))) (l9 : K.lookup f9 = some ⟨oc9, od9, .func (PySem.W.fnOf "_law_musts" "_law_musts" (defArgs sLMusts) (defBody sLMusts) (defScope sLMusts) .none kV9 dc9 pm9 an9 cd9 ct9), sl9⟩) (c9 : PySem.W.codeIn K cd9 "_law_musts" = true) (k9 : PySem.W.keepIn K (.ref f9) = true)
    (a10 : PySem.W.nsIn K mainGlobals "_law_whole" = some (some (.ref f10))) (l10 : K.lookup f10 = some ⟨oc10, od10, .func (PySem.W.fnOf "_law_whole" "_law_whole" (defArgs sWhole) (defBody sWhole) (defScope sWhole) .none kV10 dc10 pm10 an10 cd10 ct10), sl10⟩) (c10 : PySem.W.codeIn K cd10 "_law_whole" = true) (k10 : PySem.W.keepIn K (.ref f10) = true)
    (a11 : PySem.W.nsIn K mainGlobals "_law_wholes_right" = some (some (.ref f11))) (l11 : K.lookup f11 = some ⟨oc11, od11, .func (PySem.W.fnOf "_law_wholes_right" "_law_wholes_right" (defArgs sRight) (defBody sRight) (defScope sRight) .none kV11 dc11 pm11 an11 cd11 ct11), sl11⟩) (c11 : PySem.W.codeIn K cd11 "_law_wholes_right" = true) (k11 : PySem.W.keepIn K (.ref f11) = true)
    (a12 : PySem.W.nsIn K mainGlobals "_law_bent" = some (some (.ref f12))) (l12 : K.lookup f12 = some ⟨oc12, od12, .func (PySem.W.fnOf "_law_bent" "_law_bent" (defArgs sBent) (defBody sBent) (defScope sBent) .none kV12 dc12 pm12 an12 cd12 ct12), sl12⟩) (c12 : PySem.W.codeIn K cd12 "_law_bent" = true) (k12 : PySem.W.keepIn K (.ref f12) = true)
    (a13 : PySem.W.nsIn K mainGlobals "law" = some (some (.ref f13))) (l13 : K.lookup f13 = some ⟨oc13, od13, .func (PySem.W.fnOf "law" "law" (defArgs sLaw) (defBody sLaw) (defScope sLaw) .none kV13 dc13 pm13 an13 cd13 ct13), sl13⟩) (c13 : PySem.W.codeIn K cd13 "law" = true) (k13 : PySem.W.keepIn K (.ref f13) = true)
     (z1 : PySem.W.nsIn K mainGlobals "len" = some none) (z2 : PySem.W.nsIn K mainGlobals "range" = some none) (z3 : PySem.W.nsIn K mainGlobals "tuple" = some none) (z4 : PySem.W.nsIn K mainGlobals "sorted" = some none) (z5 : PySem.W.nsIn K mainGlobals "set" = some none) (z6 : PySem.W.nsIn K mainGlobals "list" = some none) (z7 : PySem.W.nsIn K mainGlobals "int" = some none) (z8 : PySem.W.nsIn K mainGlobals "isinstance" = some none) (z9 : PySem.W.nsIn K mainGlobals "bool" = some none) (z10 : PySem.W.nsIn K mainGlobals "str" = some none) (z11 : PySem.W.nsIn K mainGlobals "all" = some none) (z12 : PySem.W.nsIn K mainGlobals "zip" = some none) (z13 : PySem.W.nsIn K mainGlobals "max" = some none) (z14 : PySem.W.nsIn K mainGlobals "min" = some none) (z15 : PySem.W.nsIn K mainGlobals "any" = some none) (z16 : PySem.W.nsIn K mainGlobals "abs" = some none) (z17 : PySem.W.nsIn K mainGlobals "sum" = some none) :
    ∃ fd : FuncData, (∀ (s : Shared) (v : Value), BindsTo s fd ⟨[v], []⟩ [("script", v)]) ∧ ∀ base : Heap, K.In base → base.Ns mainGlobals mg → FnOk l.prog w K mg base CX0 4 fa fd ["script"] (spLaw K) := by
  have e := hfa.symm.trans (PySem.W.mg_of X G a13)
  cases e
  have T : Txt mg := ⟨PySem.W.mg_none_of X G z1, PySem.W.mg_none_of X G z2, PySem.W.mg_none_of X G z3, PySem.W.mg_none_of X G z4, PySem.W.mg_none_of X G z5, PySem.W.mg_none_of X G z6, PySem.W.mg_none_of X G z7, PySem.W.mg_none_of X G z8, PySem.W.mg_none_of X G z9, PySem.W.mg_none_of X G z10, PySem.W.mg_none_of X G z11, PySem.W.mg_none_of X G z12, PySem.W.mg_none_of X G z13, PySem.W.mg_none_of X G z14, PySem.W.mg_none_of X G z15, PySem.W.mg_none_of X G z16, PySem.W.mg_none_of X G z17⟩
  have F1 := fun_mk (st := sWhole0) l1 c1 k1
  have b1 := F1.binds (ps := ["thing"]) fun _ _ _ _ _ _ us hl => match us, hl with | [_], _ => rfl
  have F2 := fun_mk (st := sMusts) l2 c2 k2
  have b2 := F2.binds (ps := ["box"]) fun _ _ _ _ _ _ us hl => match us, hl with | [_], _ => rfl
  have F3 := fun_mk (st := sAre) l3 c3 k3
  have b3 := F3.binds (ps := ["box", "thing"]) fun _ _ _ _ _ _ us hl => match us, hl with | [_, _], _ => rfl
  have F4 := fun_mk (st := sCell) l4 c4 k4
  have b4 := F4.binds (ps := ["script", "k"]) fun _ _ _ _ _ _ us hl => match us, hl with | [_, _], _ => rfl
  have F5 := fun_mk (st := sPot) l5 c5 k5
  have b5 := F5.binds (ps := ["cell"]) fun _ _ _ _ _ _ us hl => match us, hl with | [_], _ => rfl
  have F6 := fun_mk (st := sTake) l6 c6 k6
  have b6 := F6.binds (ps := ["pot", "wide"]) fun _ _ _ _ _ _ us hl => match us, hl with | [_, _], _ => rfl
  have F7 := fun_mk (st := sLot) l7 c7 k7
  have b7 := F7.binds (ps := ["pot", "wide"]) fun _ _ _ _ _ _ us hl => match us, hl with | [_, _], _ => rfl
  have F8 := fun_mk (st := sPlanted) l8 c8 k8
  have b8 := F8.binds (ps := ["pot", "most_things", "most_pieces"]) fun _ _ _ _ _ _ us hl => match us, hl with | [_, _, _], _ => rfl
  have F9 := fun_mk (st := sLMusts) l9 c9 k9
  have b9 := F9.binds (ps := ["box"]) fun _ _ _ _ _ _ us hl => match us, hl with | [_], _ => rfl
  have F10 := fun_mk (st := sWhole) l10 c10 k10
  have b10 := F10.binds (ps := ["found"]) fun _ _ _ _ _ _ us hl => match us, hl with | [_], _ => rfl
  have F11 := fun_mk (st := sRight) l11 c11 k11
  have b11 := F11.binds (ps := ["box", "thing"]) fun _ _ _ _ _ _ us hl => match us, hl with | [_, _], _ => rfl
  have F12 := fun_mk (st := sBent) l12 c12 k12
  have b12 := F12.binds (ps := ["pot", "numbers"]) fun _ _ _ _ _ _ us hl => match us, hl with | [_, _], _ => rfl
  have F13 := fun_mk (st := sLaw) l13 c13 k13
  refine ⟨PySem.W.fnOf "law" "law" (defArgs sLaw) (defBody sLaw) (defScope sLaw) .none kV13 dc13 pm13 an13 cd13 ct13, fun s v => .of_eq rfl, fun base _ _ => ?_⟩
  have M := fun {x : Str} {f : Addr} (a : PySem.W.nsIn K mainGlobals x = some (some (.ref f))) => PySem.W.mg_of X G a
  have M' := fun {x : Str} {v : Value} (a : PySem.W.nsIn K mainGlobals x = some (some v)) => PySem.W.mg_of X G a
  have C1 : Can l.prog w K mg base "is_whole" 1 f1 _ ["thing"] spWh := ⟨ok_whole0 F1 T, M a1, k1, b1⟩
  have C2 : Can l.prog w K mg base "musts_of" 1 f2 _ ["box"] spMusts := ⟨ok_musts F2 T, M a2, k2, b2⟩
  have C3 : Can l.prog w K mg base "are_wholes" 2 f3 _ ["box", "thing"] spWho := ⟨ok_are F3 T C1 C2, M a3, k3, b3⟩
  have C4 : Can l.prog w K mg base "_law_cell_at" 1 f4 _ ["script", "k"] (spCell K) := ⟨ok_cell F4 T, M a4, k4, b4⟩
  have C5 : Can l.prog w K mg base "_law_pot" 1 f5 _ ["cell"] spPot := ⟨ok_pot F5 T, M a5, k5, b5⟩
  have C6 : Can l.prog w K mg base "_law_take" 1 f6 _ ["pot", "wide"] spTake := ⟨ok_take F6, M a6, k6, b6⟩
  have C7 : Can l.prog w K mg base "_law_lot" 2 f7 _ ["pot", "wide"] spLot := ⟨ok_lot F7 T C6, M a7, k7, b7⟩
  have C8 : Can l.prog w K mg base "_law_planted" 3 f8 _ ["pot", "most_things", "most_pieces"] spPlanted := ⟨ok_planted F8 T C6 C7, M a8, k8, b8⟩
  have C9 : Can l.prog w K mg base "_law_musts" 1 f9 _ ["box"] spMusts := ⟨ok_lmusts F9 T, M a9, k9, b9⟩
  have C10 : Can l.prog w K mg base "_law_whole" 1 f10 _ ["found"] spWh := ⟨ok_whole F10 T, M a10, k10, b10⟩
  have C11 : Can l.prog w K mg base "_law_wholes_right" 2 f11 _ ["box", "thing"] spWho := ⟨ok_right F11 T C10 C9, M a11, k11, b11⟩
  have C12 : Can l.prog w K mg base "_law_bent" 2 f12 _ ["pot", "numbers"] spBent := ⟨ok_bent F12 T C6, M a12, k12, b12⟩
  exact ok_law F13 T C4 C5 C6 C8 C3 C11 C12
theorem walk {l : PySem.W.OpenLaw} {q : Program} {loose : List Str} {XP : (Str → Option Value) → Heap → Prop} {YP : World → Heap → Prop} {d : DefRec} {K : Params → PySem.W.Frag} (hn : l.most = some 63) (hdf : d.params.defaults = [])
    (hY : ∀ (w : World) (h : Heap), YP w h → (K w.params).In h)
    (F : ∀ (w : World) (mg : Str → Option Value) (fa : Addr) (h : Heap), (K w.params).In h → h.Ns mainGlobals mg → mg d.name = some (.ref fa) →
      ∃ fd : FuncData, (∀ (s : Shared) (u : Value), BindsTo s fd ⟨[u], []⟩ [("script", u)]) ∧ ∀ base : Heap, (K w.params).In base → base.Ns mainGlobals mg → FnOk l.prog w (K w.params) mg base CX0 4 fa fd ["script"] (spLaw (K w.params))) :
    PySem.W.WalkO q loose XP YP l.row.toRowW d [] (fun f vs => PySem.call f vs) :=
  L2.walk_of (n := 63) (k := 4) (x := "script") (CX := fun _ => CX0) (sp := fun w => spLaw (K w.params)) hn (by decide) hdf ⟨rfl, by decide, by decide⟩ hY F (fun _ _ a ns hl _ hS => ⟨a, ns, rfl, hS, hl, fun _ => rfl⟩) fun _ _ _ _ _ z => z
end Eo
open PySem PySem.W PyProof.Rows
set_option maxRecDepth 100000 in
set_option maxHeartbeats 0 in
theorem PySem.Challenge.cw_eachonce_k51_what_are_wholes_holds : PySem.Challenge.rw_eachonce_k51_what_are_wholes.Holds := by
  w_on; o_law; k_head; (case hw => w_witness2)
  k_fill
  refine Eo.walk (l := PySem.Challenge.rw_eachonce_k51_what_are_wholes) rfl rfl (fun w h Y => PySem.W.kIn_of Y) ?F
  case F =>
    intro w mg fa h KX G hmg
    refine' Eo.all_mk KX G hmg ?a1 ?l1 ?c1 ?k1 ?a2 ?l2 ?c2 ?k2 ?a3 ?l3 ?c3 ?k3 ?a4 ?l4 ?c4 ?k4 ?a5 ?l5 ?c5 ?k5 ?a6 ?l6 ?c6 ?k6 ?a7 ?l7 ?c7 ?k7 ?a8 ?l8 ?c8 ?k8 ?a9 ?l9 ?c9 ?k9 ?a10 ?l10 ?c10 ?k10 ?a11 ?l11 ?c11 ?k11 ?a12 ?l12 ?c12 ?k12 ?a13 ?l13 ?c13 ?k13 ?z1 ?z2 ?z3 ?z4 ?z5 ?z6 ?z7 ?z8 ?z9 ?z10 ?z11 ?z12 ?z13 ?z14 ?z15 ?z16 ?z17
    (case a1 => k_is)
    (case l1 => k_is)
    (case c1 => k_is)
    (case k1 => k_is)
    (case a2 => k_is)
    (case l2 => k_is)
    (case c2 => k_is)
    (case k2 => k_is)
    (case a3 => k_is)
    (case l3 => k_is)
    (case c3 => k_is)
    (case k3 => k_is)
    (case a4 => k_is)
    (case l4 => k_is)
    (case c4 => k_is)
    (case k4 => k_is)
    (case a5 => k_is)
    (case l5 => k_is)
    (case c5 => k_is)
    (case k5 => k_is)
    (case a6 => k_is)
    (case l6 => k_is)
    (case c6 => k_is)
    (case k6 => k_is)
    (case a7 => k_is)
    (case l7 => k_is)
    (case c7 => k_is)
    (case k7 => k_is)
    (case a8 => k_is)
    (case l8 => k_is)
    (case c8 => k_is)
    (case k8 => k_is)
    (case a9 => k_is)
    (case l9 => k_is)
    (case c9 => k_is)
    (case k9 => k_is)
    (case a10 => k_is)
    (case l10 => k_is)
    (case c10 => k_is)
    (case k10 => k_is)
    (case a11 => k_is)
    (case l11 => k_is)
    (case c11 => k_is)
    (case k11 => k_is)
    (case a12 => k_is)
    (case l12 => k_is)
    (case c12 => k_is)
    (case k12 => k_is)
    (case a13 => k_is)
    (case l13 => k_is)
    (case c13 => k_is)
    (case k13 => k_is)
    (case z1 => k_is)
    (case z2 => k_is)
    (case z3 => k_is)
    (case z4 => k_is)
    (case z5 => k_is)
    (case z6 => k_is)
    (case z7 => k_is)
    (case z8 => k_is)
    (case z9 => k_is)
    (case z10 => k_is)
    (case z11 => k_is)
    (case z12 => k_is)
    (case z13 => k_is)
    (case z14 => k_is)
    (case z15 => k_is)
    (case z16 => k_is)
    (case z17 => k_is)
end
