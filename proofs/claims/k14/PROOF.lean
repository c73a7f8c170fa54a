import PyProof.Rows.All
import Wide.All
import OpenK.AllK
import Wide.FinOn
import HandS.ForMost
import HandS.ForExc
import HandS.Star
import HandS.TupAny
import HandS.TupMul
import HandS.IsInst
import HandS.HotCalls
import HandS.ExcIs
import HandS.SetFor
import HandS.Codes
import PyProof.ListMulRoad
import PyProof.FactsAll.tuple_2
import HandS.Style
import HandS.Conv
import HandS.SortInts
import PyProof.WalkInts
import PyProof.WalksMore
import HandS.DictComp
import HandS.TupLen
import HandS.DictTup
import HandS.Walk
import PyProof.DictMoreH
import HandS.Deep
import HandS.EndTab
import HandS.Nested
import KE.KMinKey
import KE.KNestM
import KE.DataMinMax
import PySem.Challenge.RW_healring_k14_lists_told_anew
set_option Elab.async false
set_option linter.all false
set_option maxRecDepth 100000
set_option maxHeartbeats 4000000

/-! Healring: the mathematics, in plain Lean. -/
namespace HR

/-- machine k of the ring r may step -/
def may (r : List Int) (k : Nat) : Bool :=
  if k = 0 then decide (r.getD 0 0 = r.getD (r.length - 1) 0) else !decide (r.getD k 0 = r.getD (k - 1) 0)
def able (r : List Int) : List Nat := (List.range r.length).filter (may r)
def nxt (m : Int) (r : List Int) (k : Nat) : Int := if k = 0 then (r.getD 0 0 + 1) % m else r.getD (k - 1) 0
def step (m : Int) (r : List Int) (k : Nat) : List Int := r.set k (nxt m r k)
def run (m : Int) (r : List Int) (ks : List Nat) : List Int := ks.foldl (step m) r
def legal (m : Int) : List Int → List Nat → Prop
  | _, [] => True
  | r, k :: ks => k ∈ able r ∧ legal m (step m r k) ks

structure Good (n : Nat) (m : Int) (r : List Int) : Prop where
  len : r.length = n
  n2 : 2 ≤ n
  n12 : n ≤ 12
  m2 : 2 ≤ m
  m100 : m ≤ 100
  val : ∀ x ∈ r, 0 ≤ x ∧ x < m

theorem mem_able {r : List Int} {k : Nat} : k ∈ able r ↔ k < r.length ∧ may r k = true := by
  unfold able
  rw [List.mem_filter, List.mem_range]
theorem may_zero {r : List Int} : may r 0 = true ↔ r.getD 0 0 = r.getD (r.length - 1) 0 := by
  unfold may
  rw [if_pos rfl, decide_eq_true_iff]
theorem may_pos {r : List Int} {k : Nat} (h : k ≠ 0) : may r k = true ↔ r.getD k 0 ≠ r.getD (k - 1) 0 := by
  unfold may
  rw [if_neg h]
  simp
theorem step_len {m : Int} {r : List Int} {k : Nat} : (step m r k).length = r.length := by
  unfold step
  rw [List.length_set]
theorem step_self {m : Int} {r : List Int} {k : Nat} (h : k < r.length) : (step m r k).getD k 0 = nxt m r k := by
  unfold step
  rw [List.getD_eq_getElem?_getD, List.getElem?_set_self h]
  rfl
theorem step_ne {m : Int} {r : List Int} {k i : Nat} (h : k ≠ i) : (step m r k).getD i 0 = r.getD i 0 := by
  unfold step
  rw [List.getD_eq_getElem?_getD, List.getD_eq_getElem?_getD, List.getElem?_set_ne h]
theorem getD_mem {r : List Int} {k : Nat} (h : k < r.length) : r.getD k 0 ∈ r := by
  rw [List.getD_eq_getElem?_getD, List.getElem?_eq_getElem h]
  exact List.getElem_mem h
theorem mem_getD {r : List Int} {x : Int} (h : x ∈ r) : ∃ k, k < r.length ∧ r.getD k 0 = x := by
  obtain ⟨k, hk, e⟩ := List.mem_iff_getElem.mp h
  refine ⟨k, hk, ?_⟩
  rw [List.getD_eq_getElem?_getD, List.getElem?_eq_getElem hk, e]
  rfl
theorem Good.at {n : Nat} {m : Int} {r : List Int} (g : Good n m r) {k : Nat} (h : k < n) : 0 ≤ r.getD k 0 ∧ r.getD k 0 < m :=
  g.val _ (getD_mem (by rw [g.len]; exact h))
theorem Good.step {n : Nat} {m : Int} {r : List Int} (g : Good n m r) (k : Nat) : Good n m (step m r k) := by
  refine ⟨step_len.trans g.len, g.n2, g.n12, g.m2, g.m100, fun x hx => ?_⟩
  have m2 := g.m2
  have n2 := g.n2
  have hl : (HR.step m r k).length = n := step_len.trans g.len
  obtain ⟨i, hi, e⟩ := mem_getD hx
  rw [hl] at hi
  subst e
  by_cases hk : k = i
  · subst hk
    rw [step_self (by rw [g.len]; exact hi)]
    unfold nxt
    split
    · exact ⟨Int.emod_nonneg _ (by omega), Int.emod_lt_of_pos _ (by omega)⟩
    · exact g.at (by omega)
  · rw [step_ne hk]
    exact g.at hi
theorem run_nil {m : Int} {r : List Int} : run m r [] = r := rfl
theorem run_cons {m : Int} {r : List Int} {k : Nat} {ks : List Nat} : run m r (k :: ks) = run m (step m r k) ks := rfl
theorem run_append {m : Int} {r : List Int} {ks ls : List Nat} : run m r (ks ++ ls) = run m (run m r ks) ls := by
  unfold run
  rw [List.foldl_append]
theorem run_snoc {m : Int} {r : List Int} {ks : List Nat} {k : Nat} : run m r (ks ++ [k]) = step m (run m r ks) k := by
  rw [run_append]
  rfl
theorem run_len {m : Int} : ∀ {ks : List Nat} {r : List Int}, (run m r ks).length = r.length
  | [], _ => rfl
  | k :: ks, r => by rw [run_cons, run_len (ks := ks), step_len]
theorem Good.run {n : Nat} {m : Int} : ∀ {ks : List Nat} {r : List Int}, Good n m r → Good n m (run m r ks)
  | [], _, g => g
  | k :: ks, r, g => by
    rw [run_cons]
    exact Good.run (ks := ks) (g.step k)
theorem legal_append {m : Int} : ∀ {ks ls : List Nat} {r : List Int}, legal m r (ks ++ ls) ↔ legal m r ks ∧ legal m (run m r ks) ls
  | [], ls, r => by
    show legal m r ls ↔ True ∧ legal m r ls
    exact ⟨fun h => ⟨trivial, h⟩, fun h => h.2⟩
  | k :: ks, ls, r => by
    show (k ∈ able r ∧ legal m (step m r k) (ks ++ ls)) ↔ (k ∈ able r ∧ legal m (step m r k) ks) ∧ legal m (run m (step m r k) ks) ls
    rw [legal_append (ks := ks)]
    exact ⟨fun ⟨a, b, c⟩ => ⟨⟨a, b⟩, c⟩, fun ⟨⟨a, b⟩, c⟩ => ⟨a, b, c⟩⟩
theorem legal_snoc {m : Int} {ks : List Nat} {k : Nat} {r : List Int} : legal m r (ks ++ [k]) ↔ legal m r ks ∧ k ∈ able (run m r ks) := by
  rw [legal_append]
  exact ⟨fun ⟨a, b, _⟩ => ⟨a, b⟩, fun ⟨a, b⟩ => ⟨a, b, trivial⟩⟩
/-- prefix induction along a legal order -/
theorem snoc_ind {P : List Nat → Prop} (h0 : P []) (hs : ∀ ks k, P ks → P (ks ++ [k])) (ks : List Nat) : P ks := by
  have aux : ∀ n, ∀ ks : List Nat, ks.length = n → P ks := by
    intro n
    induction n with
    | zero =>
      intro ks h
      have e : ks = [] := List.eq_nil_of_length_eq_zero h
      subst e
      exact h0
    | succ n ih =>
      intro ks h
      have hne : ks ≠ [] := fun e => by
        subst e
        cases h
      have e := List.dropLast_concat_getLast hne
      rw [← e]
      exact hs _ _ (ih _ (by rw [List.length_dropLast, h]; rfl))
  exact aux _ ks rfl

/-! ### some machine may always step -/
theorem all_eq_of_none {r : List Int} (h : ∀ k, 0 < k → k < r.length → may r k = false) : ∀ k, k < r.length → r.getD k 0 = r.getD 0 0
  | 0, _ => rfl
  | k + 1, hk => by
    have ih := all_eq_of_none h k (by omega)
    have e : r.getD (k + 1) 0 = r.getD k 0 := by
      cases Classical.em (r.getD (k + 1) 0 = r.getD k 0) with
      | inl q => exact q
      | inr q =>
        have z := (may_pos (r := r) (k := k + 1) (by omega)).mpr q
        rw [h (k + 1) (by omega) hk] at z
        cases z
    exact e.trans ih
theorem able_ne {r : List Int} (h : 0 < r.length) : able r ≠ [] := by
  intro e
  have no : ∀ k, k < r.length → may r k = false := fun k hk => by
    cases q : may r k with
    | false => rfl
    | true =>
      have : k ∈ able r := mem_able.mpr ⟨hk, q⟩
      rw [e] at this
      cases this
  have all := all_eq_of_none fun k _ hk => no k hk
  have z := no 0 h
  have z' : may r 0 = true := may_zero.mpr (all (r.length - 1) (by omega)).symm
  rw [z] at z'
  cases z'
theorem able_pos {r : List Int} (h : 0 < r.length) : 0 < (able r).length := by
  cases e : able r with
  | nil => exact absurd e (able_ne h)
  | cons a l => exact Nat.succ_pos _
theorem able_lt {r : List Int} {k : Nat} (h : k ∈ able r) : k < r.length := (mem_able.mp h).1
theorem able_nodup (r : List Int) : (able r).Nodup := List.Pairwise.filter _ List.nodup_range

/-! ### point 7: none but machine 0 steps more than once more often than the one before it -/
theorem counts_inv {m : Int} {r : List Int} (ks : List Nat) (h : legal m r ks) (k : Nat) (hk : 0 < k) (hn : k < r.length) :
    ks.count k + (if (run m r ks).getD k 0 ≠ (run m r ks).getD (k - 1) 0 then 1 else 0) ≤ ks.count (k - 1) + 1 := by
  revert h
  refine snoc_ind (P := fun ks => legal m r ks → ks.count k + (if (run m r ks).getD k 0 ≠ (run m r ks).getD (k - 1) 0 then 1 else 0) ≤ ks.count (k - 1) + 1) ?_ ?_ ks
  · intro _
    simp only [List.count_nil]
    split <;> omega
  · intro ks j ih hl
    obtain ⟨hl, hj⟩ := legal_snoc.mp hl
    have ih := ih hl
    obtain ⟨hjl, hjm⟩ := mem_able.mp hj
    rw [run_snoc, List.count_append, List.count_append]
    have hrl : (run m r ks).length = r.length := run_len
    by_cases e1 : j = k
    · subst e1
      have c1 : List.count j [j] = 1 := by simp
      have c2 : List.count (j - 1) [j] = 0 := by
        rw [List.count_singleton]
        have : (j == j - 1) = false := by simp; omega
        rw [this]; rfl
      rw [c1, c2, step_self hjl, step_ne (by omega)]
      have d := (may_pos (by omega)).mp hjm
      rw [if_pos d] at ih
      have e : nxt m (run m r ks) j = (run m r ks).getD (j - 1) 0 := by
        unfold nxt
        rw [if_neg (by omega)]
      rw [if_neg (by rw [e]; simp)]
      omega
    · have c1 : List.count k [j] = 0 := by
        rw [List.count_singleton]
        have : (j == k) = false := by simpa using e1
        rw [this]; rfl
      rw [c1]
      by_cases e2 : j = k - 1
      · subst e2
        have c2 : List.count (k - 1) [k - 1] = 1 := by simp
        rw [c2]
        have : (if (step m (run m r ks) (k - 1)).getD k 0 ≠ (step m (run m r ks) (k - 1)).getD (k - 1) 0 then 1 else 0) ≤ 1 := by split <;> omega
        have q : ks.count k ≤ ks.count (k - 1) + 1 := by omega
        omega
      · have c2 : List.count (k - 1) [j] = 0 := by
          rw [List.count_singleton]
          have : (j == k - 1) = false := by simpa using e2
          rw [this]; rfl
        rw [c2, step_ne e1, step_ne e2]
        omega
theorem counts_le {m : Int} {r : List Int} {ks : List Nat} (h : legal m r ks) {k : Nat} (hk : 0 < k) (hn : k < r.length) : ks.count k ≤ ks.count (k - 1) + 1 := by
  have := counts_inv ks h k hk hn
  omega
theorem counts_zero {m : Int} {r : List Int} {ks : List Nat} (h : legal m r ks) : ∀ k, k < r.length → ks.count k ≤ ks.count 0 + k
  | 0, _ => by omega
  | k + 1, hk => by
    have ih := counts_zero h k (by omega)
    have := counts_le h (k := k + 1) (by omega) hk
    have e : k + 1 - 1 = k := rfl
    rw [e] at this
    omega

/-! ### how long an order is -/
def tri : Nat → Nat → Nat
  | _, 0 => 0
  | c, n + 1 => tri c n + (c + n)
theorem tri_eq (c : Nat) : ∀ n, 2 * tri c n + n = 2 * c * n + n * n
  | 0 => by simp [tri]
  | n + 1 => by
    have ih := tri_eq c n
    show 2 * (tri c n + (c + n)) + (n + 1) = _
    have e : (n + 1) * (n + 1) = n * n + 2 * n + 1 := by
      rw [Nat.mul_add, Nat.add_mul]; omega
    have e2 : 2 * c * (n + 1) = 2 * c * n + 2 * c := by rw [Nat.mul_add, Nat.mul_one]
    rw [e, e2]
    omega
/-- an order of machines below n is as long as their counts together -/
theorem len_counts : ∀ (n : Nat) (ks : List Nat), (∀ k ∈ ks, k < n) → ks.length = ((List.range n).map fun k => ks.count k).sum
  | n, [], _ => by
    have : ((List.range n).map fun k => ([] : List Nat).count k) = List.replicate n 0 := by
      apply List.ext_getElem
      · simp
      · intro i h1 h2
        simp
    rw [this]
    induction n with
    | zero => rfl
    | succ n ih => rw [List.replicate_succ, List.sum_cons]; simp
  | n, k :: ks, h => by
    have ih := len_counts n ks fun j hj => h j (List.mem_cons_of_mem _ hj)
    have hk := h k List.mem_cons_self
    rw [List.length_cons, ih]
    have e : ∀ (l : List Nat), l.Nodup → (l.map fun j => (k :: ks).count j).sum = (l.map fun j => ks.count j).sum + (if k ∈ l then 1 else 0) := by
      intro l
      induction l with
      | nil => intro _; rfl
      | cons a l il =>
        intro nd
        obtain ⟨na, nl⟩ := List.nodup_cons.mp nd
        rw [List.map_cons, List.sum_cons, List.map_cons, List.sum_cons, il nl]
        by_cases q : k = a
        · subst q
          rw [if_neg na, if_pos List.mem_cons_self, List.count_cons_self]
          omega
        · rw [List.count_cons_of_ne q]
          by_cases w : k ∈ l
          · rw [if_pos w, if_pos (List.mem_cons_of_mem _ w)]
            omega
          · have : k ∉ a :: l := fun z => (List.mem_cons.mp z).elim q w
            rw [if_neg w, if_neg this]
            omega
    rw [e _ List.nodup_range, if_pos (List.mem_range.mpr hk)]
theorem sum_le_tri (c : Nat) (f : Nat → Nat) : ∀ n, (∀ k, k < n → f k ≤ c + k) → ((List.range n).map f).sum ≤ tri c n
  | 0, _ => by simp [tri]
  | n + 1, h => by
    have ih := sum_le_tri c f n fun k hk => h k (by omega)
    have q := h n (by omega)
    rw [List.range_succ, List.map_append, List.sum_append]
    show _ ≤ tri c n + (c + n)
    simp only [List.map_cons, List.map_nil, List.sum_cons, List.sum_nil]
    omega
theorem legal_lt {m : Int} : ∀ {ks : List Nat} {r : List Int}, legal m r ks → ∀ k ∈ ks, k < r.length
  | [], _, _, k, hk => nomatch hk
  | j :: ks, r, ⟨hj, hl⟩, k, hk => by
    rcases List.mem_cons.mp hk with e | e
    · subst e
      exact able_lt hj
    · have := legal_lt hl k e
      rw [step_len] at this
      exact this

/-! ### point 10: a number that no other machine holds -/
theorem erase_sub {α : Type} [DecidableEq α] : ∀ {l l' : List α}, l.Nodup → (∀ x ∈ l, x ∈ l') → l.length ≤ l'.length
  | [], _, _, _ => Nat.zero_le _
  | a :: l, l', nd, h => by
    obtain ⟨na, nl⟩ := List.nodup_cons.mp nd
    have ha := h a List.mem_cons_self
    have := erase_sub (l := l) (l' := l'.erase a) nl fun x hx => by
      have hx' := h x (List.mem_cons_of_mem _ hx)
      have : x ≠ a := fun e => na (e ▸ hx)
      exact (List.mem_erase_of_ne this).mpr hx'
    rw [List.length_erase_of_mem ha] at this
    have hp : 0 < l'.length := List.length_pos_of_mem ha
    rw [List.length_cons]
    omega
theorem emod_inj {m a : Int} {i j : Nat} (hi : (i : Int) < m) (hj : (j : Int) < m) (e : (a + i) % m = (a + j) % m) : i = j := by
  have h : ((a + i) - (a + j)) % m = 0 := Int.emod_eq_emod_iff_emod_sub_eq_zero.mp e
  have e2 : (a + (i : Int)) - (a + j) = (i : Int) - j := by omega
  rw [e2] at h
  have d : m ∣ (i : Int) - j := Int.dvd_of_emod_eq_zero h
  obtain ⟨q, hq⟩ := d
  by_cases h0 : q = 0
  · subst h0
    simp at hq
    omega
  · exfalso
    have mp : 0 < m := by omega
    by_cases hp : 0 < q
    · have : m * 1 ≤ m * q := Int.mul_le_mul_of_nonneg_left (by omega) (by omega)
      omega
    · have : m * q ≤ m * (-1) := Int.mul_le_mul_of_nonneg_left (by omega) (by omega)
      omega
theorem fresh {n : Nat} {m : Int} {r : List Int} (g : Good n m r) (hm : (n : Int) ≤ m) : ∃ j, j < n ∧ ∀ i, 0 < i → i < n → r.getD i 0 ≠ (r.getD 0 0 + (j : Nat)) % m := by
  have n2 := g.n2
  cases Classical.em (∃ j, j < n ∧ ∀ i, 0 < i → i < n → r.getD i 0 ≠ (r.getD 0 0 + (j : Nat)) % m) with
  | inl h => exact h
  | inr h =>
    exfalso
    have all : ∀ x ∈ (List.range n).map (fun j : Nat => (r.getD 0 0 + (j : Int)) % m), x ∈ r.tail := by
      intro x hx
      obtain ⟨j, hj, e⟩ := List.mem_map.mp hx
      have hj := List.mem_range.mp hj
      cases Classical.em (∃ i, 0 < i ∧ i < n ∧ r.getD i 0 = (r.getD 0 0 + (j : Nat)) % m) with
      | inl q =>
        obtain ⟨i, h0, h1, e1⟩ := q
        rw [← e]
        show (r.getD 0 0 + (j : Int)) % m ∈ r.tail
        rw [← e1]
        cases r with
        | nil =>
          have := g.len
          simp at this
          omega
        | cons a t =>
          obtain ⟨i', rfl⟩ : ∃ i', i = i' + 1 := ⟨i - 1, by omega⟩
          have hl := g.len
          rw [List.length_cons] at hl
          show (a :: t).getD (i' + 1) 0 ∈ t
          have : (a :: t).getD (i' + 1) 0 = t.getD i' 0 := rfl
          rw [this]
          exact getD_mem (by omega)
      | inr q => exact absurd ⟨j, hj, fun i h0 h1 e1 => q ⟨i, h0, h1, e1⟩⟩ h
    have nd : ((List.range n).map (fun j : Nat => (r.getD 0 0 + (j : Int)) % m)).Nodup := by
      rw [List.nodup_iff_pairwise_ne, List.pairwise_map]
      refine List.Pairwise.imp_of_mem ?_ List.nodup_range
      intro a b ha hb ne e
      have ha := List.mem_range.mp ha
      have hb := List.mem_range.mp hb
      exact ne (emod_inj (by omega) (by omega) e)
    have := erase_sub nd all
    rw [List.length_map, List.length_range, List.length_tail, g.len] at this
    omega
/-- the way of the fresh number v = a + j: c steps of machine 0 so far -/
structure Way (n : Nat) (m : Int) (a : Int) (j c : Nat) (r : List Int) : Prop where
  le : c ≤ j
  x0 : r.getD 0 0 = (a + (c : Nat)) % m
  st : (c < j ∧ ∀ i, 0 < i → i < n → r.getD i 0 ≠ (a + (j : Nat)) % m) ∨
    (c = j ∧ ∃ p, 1 ≤ p ∧ p ≤ n ∧ ∀ i, i < n → (r.getD i 0 = (a + (j : Nat)) % m ↔ i < p))
theorem healed_eq {n : Nat} {r : List Int} {v : Int} (hl : r.length = n) (n2 : 2 ≤ n) (h : ∀ i, i < n → r.getD i 0 = v) : able r = [0] := by
  have a0 : may r 0 = true := may_zero.mpr (by rw [hl, h 0 (by omega), h (n - 1) (by omega)])
  unfold able
  rw [hl]
  obtain ⟨n', rfl⟩ : ∃ n', n = n' + 1 := ⟨n - 1, by omega⟩
  rw [List.range_succ_eq_map, List.filter_cons, if_pos a0]
  congr 1
  rw [List.filter_eq_nil_iff]
  intro k hk
  obtain ⟨i, hi, rfl⟩ := List.mem_map.mp hk
  have hi := List.mem_range.mp hi
  intro q
  have := (may_pos (by omega)).mp q
  apply this
  rw [h (i + 1) (by omega)]
  exact (h i (by omega)).symm
theorem Way.step {n : Nat} {m a : Int} {j c : Nat} {r : List Int} (w : Way n m a j c r) (hl : r.length = n) (n2 : 2 ≤ n) (hj : j < n) (hm : (n : Int) ≤ m) {k : Nat} (hk : k ∈ able r) (un : (able r).length ≠ 1) :
    Way n m a j (if k = 0 then c + 1 else c) (step m r k) := by
  obtain ⟨hkl, hkm⟩ := mem_able.mp hk
  rw [hl] at hkl
  have hkr : k < r.length := by omega
  by_cases k0 : k = 0
  · subst k0
    rw [if_pos rfl]
    have last := may_zero.mp hkm
    rw [hl] at last
    have nx : nxt m r 0 = (a + ((c + 1 : Nat) : Int)) % m := by
      unfold nxt
      rw [if_pos rfl, w.x0, Int.emod_add_emod]
      congr 1
      push_cast
      omega
    rcases w.st with ⟨lt, oth⟩ | ⟨e, p, p1, pn, hp⟩
    · refine ⟨by omega, by rw [step_self hkr, nx], ?_⟩
      by_cases e : c + 1 = j
      · refine .inr ⟨e, 1, Nat.le_refl _, by omega, fun i hi => ?_⟩
        by_cases i0 : i = 0
        · subst i0
          rw [step_self hkr, nx, e]
          simp
        · rw [step_ne (by omega)]
          refine ⟨fun q => absurd q (oth i (by omega) hi), fun q => absurd q (by omega)⟩
      · exact .inl ⟨by omega, fun i h0 hi => by rw [step_ne (by omega)]; exact oth i h0 hi⟩
    · exfalso
      have h0 : r.getD 0 0 = (a + (j : Nat)) % m := (hp 0 (by omega)).mpr (by omega)
      have hlast := (hp (n - 1) (by omega)).mp (by rw [← last]; exact h0)
      have all : ∀ i, i < n → r.getD i 0 = (a + (j : Nat)) % m := fun i hi => (hp i hi).mpr (by omega)
      exact un (by rw [healed_eq hl n2 all]; rfl)
  · rw [if_neg k0]
    have nx : nxt m r k = r.getD (k - 1) 0 := by
      unfold nxt
      rw [if_neg k0]
    have df := (may_pos k0).mp hkm
    refine ⟨w.le, by rw [step_ne k0]; exact w.x0, ?_⟩
    rcases w.st with ⟨lt, oth⟩ | ⟨e, p, p1, pn, hp⟩
    · refine .inl ⟨lt, fun i h0 hi => ?_⟩
      by_cases e : k = i
      · subst e
        rw [step_self hkr, nx]
        by_cases k1 : k = 1
        · subst k1
          show r.getD 0 0 ≠ _
          rw [w.x0]
          intro q
          have := emod_inj (m := m) (a := a) (i := c) (j := j) (by omega) (by omega) q
          omega
        · exact oth (k - 1) (by omega) (by omega)
      · rw [step_ne e]
        exact oth i h0 hi
    · refine .inr ⟨e, ?_⟩
      have hkp : ¬ k < p := fun q => by
        apply df
        rw [(hp k hkl).mpr q]
        exact ((hp (k - 1) (by omega)).mpr (by omega)).symm
      by_cases kp : k = p
      · subst kp
        refine ⟨k + 1, by omega, by omega, fun i hi => ?_⟩
        by_cases q : k = i
        · subst q
          rw [step_self hkr, nx]
          exact ⟨fun _ => by omega, fun _ => (hp (k - 1) (by omega)).mpr (by omega)⟩
        · rw [step_ne q]
          exact (hp i hi).trans ⟨fun z => by omega, fun z => by omega⟩
      · refine ⟨p, p1, pn, fun i hi => ?_⟩
        by_cases q : k = i
        · subst q
          rw [step_self hkr, nx]
          exact (hp (k - 1) (by omega)).trans ⟨fun z => by omega, fun z => by omega⟩
        · rw [step_ne q]
          exact hp i hi
/-- no ring ahead of the end of the order is healed -/
def sick (m : Int) : List Int → List Nat → Prop
  | _, [] => True
  | r, k :: ks => (able r).length ≠ 1 ∧ sick m (step m r k) ks
theorem sick_append {m : Int} : ∀ {ks ls : List Nat} {r : List Int}, sick m r (ks ++ ls) ↔ sick m r ks ∧ sick m (run m r ks) ls
  | [], ls, r => by
    show sick m r ls ↔ True ∧ sick m r ls
    exact ⟨fun h => ⟨trivial, h⟩, fun h => h.2⟩
  | k :: ks, ls, r => by
    show ((able r).length ≠ 1 ∧ sick m (step m r k) (ks ++ ls)) ↔ ((able r).length ≠ 1 ∧ sick m (step m r k) ks) ∧ sick m (run m (step m r k) ks) ls
    rw [sick_append (ks := ks)]
    exact ⟨fun ⟨a, b, c⟩ => ⟨⟨a, b⟩, c⟩, fun ⟨⟨a, b⟩, c⟩ => ⟨a, b, c⟩⟩
theorem sick_snoc {m : Int} {ks : List Nat} {k : Nat} {r : List Int} : sick m r (ks ++ [k]) ↔ sick m r ks ∧ (able (run m r ks)).length ≠ 1 := by
  rw [sick_append]
  exact ⟨fun ⟨a, b, _⟩ => ⟨a, b⟩, fun ⟨a, b⟩ => ⟨a, b, trivial⟩⟩
theorem way_all {n : Nat} {m : Int} {r : List Int} (g : Good n m r) (hm : (n : Int) ≤ m) {j : Nat} (hj : j < n) (hf : ∀ i, 0 < i → i < n → r.getD i 0 ≠ (r.getD 0 0 + (j : Nat)) % m) (ks : List Nat) :
    legal m r ks → sick m r ks → Way n m (r.getD 0 0) j (ks.count 0) (run m r ks) := by
  refine snoc_ind (P := fun ks => legal m r ks → sick m r ks → Way n m (r.getD 0 0) j (ks.count 0) (run m r ks)) ?_ ?_ ks
  · intro _ _
    have n2 := g.n2
    have h0 := g.at (k := 0) (by omega)
    refine ⟨Nat.zero_le _, ?_, ?_⟩
    · show r.getD 0 0 = _
      rw [List.count_nil]
      simp only [Int.ofNat_zero, Int.natCast_zero, Int.add_zero]
      exact (Int.emod_eq_of_lt h0.1 h0.2).symm
    · rw [List.count_nil]
      by_cases j0 : j = 0
      · subst j0
        refine .inr ⟨rfl, 1, Nat.le_refl _, by omega, fun i hi => ?_⟩
        by_cases i0 : i = 0
        · subst i0
          refine ⟨fun _ => by omega, fun _ => ?_⟩
          show r.getD 0 0 = _
          simp only [Int.ofNat_zero, Int.natCast_zero, Int.add_zero]
          exact (Int.emod_eq_of_lt h0.1 h0.2).symm
        · refine ⟨fun q => absurd q (hf i (by omega) hi), fun q => absurd q (by omega)⟩
      · exact .inl ⟨by omega, fun i h1 h2 => hf i h1 h2⟩
  · intro ks k ih hl hs
    obtain ⟨hl, hk⟩ := legal_snoc.mp hl
    obtain ⟨hs, un⟩ := sick_snoc.mp hs
    have w := (ih hl hs).step (run_len.trans g.len) g.n2 hj hm hk un
    rw [run_snoc, List.count_append]
    have e : ks.count 0 + List.count 0 [k] = if k = 0 then ks.count 0 + 1 else ks.count 0 := by
      rw [List.count_singleton]
      by_cases k0 : k = 0
      · subst k0
        simp
      · have : (k == 0) = false := by simpa using k0
        rw [this, if_neg k0]
        rfl
    rw [e]
    exact w
theorem zero_lt {n : Nat} {m : Int} {r : List Int} (g : Good n m r) (hm : (n : Int) ≤ m) {ks : List Nat} (hl : legal m r ks) (hs : sick m r ks) : ks.count 0 < n := by
  obtain ⟨j, hj, hf⟩ := fresh g hm
  have w := way_all g hm hj hf ks hl hs
  have := w.le
  omega
/-- point 10 -/
theorem most_le {n : Nat} {m : Int} {r : List Int} (g : Good n m r) (hm : (n : Int) ≤ m) {ks : List Nat} (hl : legal m r ks) (hs : sick m r ks) : 2 * ks.length ≤ 3 * n * (n - 1) := by
  have c0 := zero_lt g hm hl hs
  have n2 := g.n2
  have lt : ∀ k ∈ ks, k < n := fun k hk => by
    have := legal_lt hl k hk
    rw [g.len] at this
    exact this
  have e := len_counts n ks lt
  have b := sum_le_tri (n - 1) (fun k => ks.count k) n fun k hk => by
    have := counts_zero hl k (by rw [g.len]; exact hk)
    omega
  rw [← e] at b
  have t := tri_eq (n - 1) n
  obtain ⟨p, rfl⟩ : ∃ p, n = p + 1 := ⟨n - 1, by omega⟩
  simp only [Nat.add_sub_cancel] at *
  have e1 : 2 * p * (p + 1) = 2 * (p * p) + 2 * p := by rw [Nat.mul_add, Nat.mul_assoc]; omega
  have e2 : (p + 1) * (p + 1) = p * p + 2 * p + 1 := by rw [Nat.mul_add, Nat.add_mul]; omega
  have e3 : 3 * (p + 1) * p = 3 * (p * p) + 3 * p := by rw [Nat.mul_add, Nat.add_mul, Nat.mul_assoc]
  rw [e1, e2] at t
  rw [e3]
  omega

/-! ### point 11: from a healed ring on the machines step in turn -/
def succ (n k : Nat) : Nat := if k + 1 = n then 0 else k + 1
theorem eq_up {r : List Int} {lo : Nat} : ∀ d, (∀ k, lo < k → k ≤ lo + d → r.getD k 0 = r.getD (k - 1) 0) → r.getD (lo + d) 0 = r.getD lo 0
  | 0, _ => rfl
  | d + 1, h => by
    have ih := eq_up (r := r) (lo := lo) d fun k h1 h2 => h k h1 (by omega)
    have q := h (lo + d + 1) (by omega) (by omega)
    show r.getD (lo + d + 1) 0 = _
    rw [q]
    exact ih
theorem eq_of_not {r : List Int} {k : Nat} (h : k ≠ 0) (hn : may r k ≠ true) : r.getD k 0 = r.getD (k - 1) 0 := by
  cases Classical.em (r.getD k 0 = r.getD (k - 1) 0) with
  | inl q => exact q
  | inr q => exact absurd ((may_pos h).mpr q) hn
theorem one_able {l : List Nat} {k : Nat} (nd : l.Nodup) (h : ∀ i, i ∈ l ↔ i = k) : l = [k] := by
  cases l with
  | nil =>
    have := (h k).mpr rfl
    cases this
  | cons a t =>
    have ea : a = k := (h a).mp List.mem_cons_self
    subst ea
    cases t with
    | nil => rfl
    | cons b t =>
      have eb : b = a := (h b).mp (List.mem_cons_of_mem _ List.mem_cons_self)
      subst eb
      obtain ⟨na, _⟩ := List.nodup_cons.mp nd
      exact absurd List.mem_cons_self na
theorem turn_next {n : Nat} {m : Int} {r : List Int} (g : Good n m r) {k : Nat} (h : able r = [k]) : able (step m r k) = [succ n k] := by
  have n2 := g.n2
  have hl := g.len
  have m2 := g.m2
  have hk : k ∈ able r := by rw [h]; exact List.mem_cons_self
  obtain ⟨hkl, hkm⟩ := mem_able.mp hk
  have only : ∀ i, i < n → i ≠ k → may r i ≠ true := fun i hi ne q => by
    have : i ∈ able r := mem_able.mpr ⟨by omega, q⟩
    rw [h] at this
    exact ne (List.mem_singleton.mp this)
  refine one_able (able_nodup _) fun i => ?_
  rw [mem_able, step_len, hl]
  have sl : (step m r k).length = n := step_len.trans hl
  by_cases k0 : k = 0
  · subst k0
    -- all numbers are alike
    have eq : ∀ i, i < n → r.getD i 0 = r.getD 0 0 := fun i hi => by
      have := eq_up (r := r) (lo := 0) i fun j h1 h2 => eq_of_not (by omega) (only j (by omega) (by omega))
      rw [Nat.zero_add] at this
      exact this
    have nx : nxt m r 0 = (r.getD 0 0 + 1) % m := by unfold nxt; rw [if_pos rfl]
    have a0 := g.at (k := 0) (by omega)
    have dn : (r.getD 0 0 + 1) % m ≠ r.getD 0 0 := fun e => by
      by_cases q : r.getD 0 0 + 1 = m
      · rw [q, Int.emod_self] at e
        omega
      · rw [Int.emod_eq_of_lt (by omega) (by omega)] at e
        omega
    have e1 : succ n 0 = 1 := by unfold succ; rw [if_neg (by omega)]
    rw [e1]
    constructor
    · rintro ⟨hi, hm⟩
      by_cases i0 : i = 0
      · subst i0
        exfalso
        have := may_zero.mp hm
        rw [sl, step_self (by omega), step_ne (by omega), nx, eq (n - 1) (by omega)] at this
        exact dn this
      · by_cases i1 : i = 1
        · exact i1
        · exfalso
          have := (may_pos i0).mp hm
          rw [step_ne (by omega), step_ne (by omega), eq i hi, eq (i - 1) (by omega)] at this
          exact this rfl
    · intro e
      subst e
      refine ⟨by omega, (may_pos (by omega)).mpr ?_⟩
      show _ ≠ (step m r 0).getD 0 0
      rw [step_ne (by omega), step_self (by omega), nx, eq 1 (by omega)]
      exact fun q => dn q.symm
  · have low : ∀ i, i < k → r.getD i 0 = r.getD 0 0 := fun i hi => by
      have := eq_up (r := r) (lo := 0) i fun j h1 h2 => eq_of_not (by omega) (only j (by omega) (by omega))
      rw [Nat.zero_add] at this
      exact this
    have high : ∀ i, k ≤ i → i < n → r.getD i 0 = r.getD k 0 := fun i h1 h2 => by
      have := eq_up (r := r) (lo := k) (i - k) fun j h3 h4 => eq_of_not (by omega) (only j (by omega) (by omega))
      have e : k + (i - k) = i := by omega
      rw [e] at this
      exact this
    have df := (may_pos k0).mp hkm
    have nx : nxt m r k = r.getD 0 0 := by
      unfold nxt
      rw [if_neg k0]
      exact low (k - 1) (by omega)
    rw [low (k - 1) (by omega)] at df
    by_cases kl : k + 1 = n
    · have e1 : succ n k = 0 := by unfold succ; rw [if_pos kl]
      rw [e1]
      have eq : ∀ i, i < n → (step m r k).getD i 0 = r.getD 0 0 := fun i hi => by
        by_cases q : k = i
        · subst q
          rw [step_self (by omega), nx]
        · rw [step_ne q]
          exact low i (by omega)
      constructor
      · rintro ⟨hi, hm⟩
        by_cases i0 : i = 0
        · exact i0
        · exfalso
          have := (may_pos i0).mp hm
          rw [eq i hi, eq (i - 1) (by omega)] at this
          exact this rfl
      · intro e
        subst e
        exact ⟨by omega, may_zero.mpr (by rw [sl, eq 0 (by omega), eq (n - 1) (by omega)])⟩
    · have e1 : succ n k = k + 1 := by unfold succ; rw [if_neg kl]
      rw [e1]
      constructor
      · rintro ⟨hi, hm⟩
        by_cases i0 : i = 0
        · subst i0
          exfalso
          have := may_zero.mp hm
          rw [sl, step_ne k0, step_ne (by omega), high (n - 1) (by omega) (by omega)] at this
          exact df this.symm
        · have q := (may_pos i0).mp hm
          by_cases ik : i = k
          · subst ik
            exfalso
            rw [step_self (by omega), step_ne (by omega), nx, low (i - 1) (by omega)] at q
            exact q rfl
          · by_cases ik1 : i = k + 1
            · exact ik1
            · exfalso
              rw [step_ne (by omega), step_ne (by omega)] at q
              by_cases lt : i < k
              · rw [low i lt, low (i - 1) (by omega)] at q
                exact q rfl
              · rw [high i (by omega) hi, high (i - 1) (by omega) (by omega)] at q
                exact q rfl
      · intro e
        subst e
        refine ⟨by omega, (may_pos (by omega)).mpr ?_⟩
        show _ ≠ (step m r k).getD k 0
        rw [step_ne (by omega), step_self (by omega), nx, high (k + 1) (by omega) (by omega)]
        exact df
/-! ### what is refused -/
/-- what a ring and many that are handed in are refused with, by the place in the list of refusals -/
def badRing (r : List Int) (m : Int) : Prop := r.length < 2 ∨ 12 < r.length ∨ ∃ x ∈ r, x < 0 ∨ m ≤ x
open Classical in
noncomputable def refuse (r : List Int) (m : Int) : Option Nat := if m < 2 ∨ 100 < m then some 0 else if badRing r m then some 1 else none
theorem refuse_none {r : List Int} {m : Int} (h : refuse r m = none) : Good r.length m r := by
  unfold refuse at h
  split at h
  · cases h
  · rename_i h1
    split at h
    · cases h
    · rename_i h2
      unfold badRing at h2
      refine ⟨rfl, ?_, ?_, ?_, ?_, fun x hx => ?_⟩
      · exact Decidable.byContradiction fun q => h2 (Or.inl (by omega))
      · exact Decidable.byContradiction fun q => h2 (Or.inr (Or.inl (by omega)))
      · exact Decidable.byContradiction fun q => h1 (Or.inl (by omega))
      · exact Decidable.byContradiction fun q => h1 (Or.inr (by omega))
      · exact Decidable.byContradiction fun q => h2 (Or.inr (Or.inr ⟨x, hx, by omega⟩))
theorem good_refuse {n : Nat} {r : List Int} {m : Int} (g : Good n m r) : refuse r m = none := by
  have a := g.len
  have b := g.n2
  have c := g.n12
  have d := g.m2
  have e := g.m100
  unfold refuse
  rw [if_neg (by omega), if_neg]
  rintro (h | h | ⟨x, hx, h⟩)
  · omega
  · omega
  · have := g.val x hx
    omega
/-- what a step of machine z is refused with -/
def refuseAt (r : List Int) (z : Int) : Option Nat := if z < 0 ∨ (r.length : Int) ≤ z then some 2 else if may r z.toNat = true then none else some 3
theorem refuseAt_none {r : List Int} {z : Int} (h : refuseAt r z = none) : 0 ≤ z ∧ z < r.length ∧ may r z.toNat = true := by
  unfold refuseAt at h
  split at h
  · cases h
  · split at h
    · rename_i h1 h2
      exact ⟨by omega, by omega, h2⟩
    · cases h
noncomputable def refuseStep (r : List Int) (m z : Int) : Option Nat := (refuse r m).or (refuseAt r z)
theorem good_refuseStep {n : Nat} {r : List Int} {m : Int} (g : Good n m r) (z : Int) : refuseStep r m z = refuseAt r z := by
  unfold refuseStep
  rw [good_refuse g]
  rfl
theorem refuseAt_j {r : List Int} {z : Int} {j : Nat} (h : refuseAt r z = some j) : j = 2 ∨ j = 3 := by
  unfold refuseAt at h
  split at h
  · exact Or.inl (Option.some.inj h).symm
  · split at h
    · cases h
    · exact Or.inr (Option.some.inj h).symm
/-- where an order leads -/
def endOf (m : Int) (r : List Int) (zs : List Int) : List Int := zs.foldl (fun r z => step m r z.toNat) r
/-- what an order is refused with, at its first step that can't be -/
def refuseGo (m : Int) : List Int → List Int → Option Nat
  | _, [] => none
  | r, z :: zs => (refuseAt r z).or (refuseGo m (step m r z.toNat) zs)
/-- the rings on the way, the first one too -/
def path (m : Int) : List Int → List Int → List (List Int)
  | r, [] => [r]
  | r, z :: zs => r :: path m (step m r z.toNat) zs
theorem endOf_snoc {m : Int} {r zs : List Int} {z : Int} : endOf m r (zs ++ [z]) = step m (endOf m r zs) z.toNat := by
  unfold endOf
  rw [List.foldl_append]
  rfl
theorem path_snoc {m : Int} : ∀ {zs r : List Int} {z : Int}, path m r (zs ++ [z]) = path m r zs ++ [step m (endOf m r zs) z.toNat]
  | [], r, z => rfl
  | y :: zs, r, z => by
    show r :: path m (step m r y.toNat) (zs ++ [z]) = r :: path m (step m r y.toNat) zs ++ [step m (endOf m (step m r y.toNat) zs) z.toNat]
    rw [path_snoc (zs := zs)]
    rfl
theorem path_len {m : Int} : ∀ {zs r : List Int}, (path m r zs).length = zs.length + 1
  | [], _ => rfl
  | _ :: zs, r => by
    show (path m _ zs).length + 1 = zs.length + 1 + 1
    rw [path_len (zs := zs)]
theorem path_last {m : Int} : ∀ {zs r : List Int}, (path m r zs)[zs.length]? = some (endOf m r zs)
  | [], _ => rfl
  | z :: zs, r => by
    show (r :: path m (step m r z.toNat) zs)[zs.length + 1]? = some (endOf m (step m r z.toNat) zs)
    rw [List.getElem?_cons_succ]
    exact path_last (zs := zs)
theorem refuseGo_append {m : Int} : ∀ {zs ws r : List Int}, refuseGo m r (zs ++ ws) = (refuseGo m r zs).or (refuseGo m (endOf m r zs) ws)
  | [], ws, r => by
    show refuseGo m r ws = (none : Option Nat).or (refuseGo m r ws)
    rfl
  | z :: zs, ws, r => by
    show (refuseAt r z).or (refuseGo m (step m r z.toNat) (zs ++ ws)) = ((refuseAt r z).or (refuseGo m (step m r z.toNat) zs)).or _
    rw [refuseGo_append (zs := zs)]
    cases refuseAt r z <;> rfl
theorem refuseGo_snoc {m : Int} {zs r : List Int} {z : Int} (h : refuseGo m r zs = none) : refuseGo m r (zs ++ [z]) = refuseAt (endOf m r zs) z := by
  rw [refuseGo_append, h]
  show (refuseAt (endOf m r zs) z).or none = _
  cases refuseAt (endOf m r zs) z <;> rfl
/-- the order's beginning is refused: so is the order -/
theorem refuseGo_take {m : Int} {zs r : List Int} {i j : Nat} (h : refuseGo m r (zs.take i) = some j) : refuseGo m r zs = some j := by
  have e := refuseGo_append (m := m) (zs := zs.take i) (ws := zs.drop i) (r := r)
  rw [List.take_append_drop] at e
  rw [e, h]
  rfl
theorem take_snoc {α : Type} : ∀ {l : List α} {i : Nat} {x : α}, l[i]? = some x → l.take (i + 1) = l.take i ++ [x]
  | [], i, x, h => by simp at h
  | a :: l, 0, x, h => by
    have e : a = x := Option.some.inj h
    subst e
    rfl
  | a :: l, i + 1, x, h => by
    have ih := take_snoc (l := l) (i := i) (x := x) h
    show a :: l.take (i + 1) = a :: l.take i ++ [x]
    rw [ih]
    rfl
theorem Good.endOf {n : Nat} {m : Int} : ∀ {zs r : List Int}, Good n m r → Good n m (endOf m r zs)
  | [], _, g => g
  | z :: zs, r, g => Good.endOf (zs := zs) (g.step z.toNat)
theorem path_all {n : Nat} {m : Int} : ∀ {r : List Int}, Good n m r → ∀ (zs : List Int) (x : List Int), x ∈ path m r zs → Good n m x
  | r, g, [], x, hx => by
    have e : x = r := List.mem_singleton.mp hx
    rw [e]
    exact g
  | r, g, z :: zs, x, hx => by
    rcases List.mem_cons.mp hx with e | e
    · rw [e]
      exact g
    · exact path_all (g.step z.toNat) zs x e
theorem refuseGo_j {m : Int} : ∀ {zs r : List Int} {j : Nat}, refuseGo m r zs = some j → j = 2 ∨ j = 3
  | [], _, _, h => by cases h
  | z :: zs, r, j, h => by
    have h' : (refuseAt r z).or (refuseGo m (step m r z.toNat) zs) = some j := h
    cases e : refuseAt r z with
    | some i =>
      rw [e] at h'
      have q : i = j := Option.some.inj h'
      subst q
      exact refuseAt_j e
    | none =>
      rw [e] at h'
      exact refuseGo_j (zs := zs) h'
/-- an order of ints that can be gone is a legal one -/
theorem legal_of_go {m : Int} : ∀ {zs r : List Int}, refuseGo m r zs = none → legal m r (zs.map Int.toNat) ∧ endOf m r zs = run m r (zs.map Int.toNat) ∧ ∀ z ∈ zs, 0 ≤ z
  | [], _, _ => ⟨trivial, rfl, fun _ h => nomatch h⟩
  | z :: zs, r, h => by
    have h' : (refuseAt r z).or (refuseGo m (step m r z.toNat) zs) = none := h
    cases e : refuseAt r z with
    | some i =>
      rw [e] at h'
      cases h'
    | none =>
      rw [e] at h'
      obtain ⟨h0, h1, h2⟩ := refuseAt_none e
      obtain ⟨l1, l2, l3⟩ := legal_of_go (zs := zs) h'
      refine ⟨⟨mem_able.mpr ⟨by omega, h2⟩, l1⟩, l2, fun y hy => ?_⟩
      rcases List.mem_cons.mp hy with q | q
      · omega
      · exact l3 y q
theorem go_of_legal {m : Int} : ∀ {ks : List Nat} {r : List Int}, legal m r ks → refuseGo m r (ks.map fun k : Nat => (k : Int)) = none ∧ endOf m r (ks.map fun k : Nat => (k : Int)) = run m r ks
  | [], _, _ => ⟨rfl, rfl⟩
  | k :: ks, r, ⟨h, hl⟩ => by
    obtain ⟨h1, h2⟩ := mem_able.mp h
    obtain ⟨i1, i2⟩ := go_of_legal hl
    refine ⟨?_, i2⟩
    show (refuseAt r (k : Int)).or (refuseGo m (step m r ((k : Int)).toNat) (ks.map fun k : Nat => (k : Int))) = none
    have e : refuseAt r (k : Int) = none := by
      unfold refuseAt
      rw [if_neg (by omega)]
      have t : ((k : Int)).toNat = k := rfl
      rw [t, if_pos h2]
    rw [e]
    exact i1

end HR


/-! Own words over the hand layer: what the laws of the healing ring want besides. -/
namespace HL
open PySem PySem.Spec PyProof.Rows L2

/-! ### heaps -/
theorem seqT_same {K : PySem.W.Frag} {H H' : Hp} {a : Addr} {xs : List V} (e : Same H H') (h : SqT K H a xs) : SqT K H' a xs := by
  rcases h with (h | ⟨o, h⟩) | h
  · exact Or.inl (Or.inl (e a _ h))
  · exact Or.inl (Or.inr ⟨o, e a _ h⟩)
  · exact Or.inr h
theorem same_new {H : Hp} {p : Addr} {o : HO} (h : H p = none) : Same H (upd H p o) := fun b x e => (upd_ne (ne_of_none e h)).trans e
theorem seqT_upd {K : PySem.W.Frag} {H : Hp} {a p : Addr} {xs : List V} {o : HO} (h : SqT K H a xs) (n : H p = none) : SqT K (upd H p o) a xs := seqT_same (same_new n) h
theorem seqL_upd {K : PySem.W.Frag} {H : Hp} {a p : Addr} {xs : List V} {o : HO} (h : SqL K H a xs) (n : H p = none) : SqL K (upd H p o) a xs := (same_new n).seq h
/-- what was tracked ahead stands, but for the one at l, which was made behind -/
def SameBut (H : Hp) (l : Addr) (H' : Hp) : Prop := Same H H' ∧ H l = none

/-! ### a def that may raise, out of a quiet place -/
section
variable {P : Program} {w : World} {K : PySem.W.Frag} {mg : Str → Option Value} {base : Heap}
theorem okN {x qual : Str} {st : Stmt} {f : Addr} {fd : FuncData} {N ps : List Str} {k : Nat} {sp : Sp} (F : Fun K x qual st f fd) (S : FnScope N ps (defScope st)) (len : ∀ vs H Q E, sp vs H Q E → vs.length = ps.length)
    (hb : ∀ (cdv : Value) (A : Around) (outer : List Env) (s : Shared) (H : Hp) (vs : List V) (Q : VK) (E : XK), Room k (A.deeper (envOfC qual (defScope st) s.heap.objs.size f cdv)) → sp vs H Q E →
      ∃ t, PSs (cxOf (L2N.CX P w) P w K mg base N qual (defScope st) f cdv A outer s H E) (defBody st) t ∧ t { nx := fun _ H' => Q .non H', rt := Q } (start N vs) H) :
    FnOk P w K mg base (L2N.CX P w) (k + 1) f fd ps sp := by
  obtain ⟨oc, od, kV, doc, pm, an, cdv, ct, osl, rfl, lk, hcd⟩ := F.ex
  exact fn_of lk hcd S len fun A outer s H vs Q E hr h => hb cdv A outer s H vs Q E hr h
theorem takes0N {X : Cx} : L2N.Takes X (fun _ _ _ _ => False) := fun _ _ x => by
  obtain ⟨_, _, _, _, _, _, _, _, _, _, _, _, _, _, _, _, z⟩ := x
  exact z.elim
theorem passN {X : Cx} : Passes (L2N.CX X.prog X.w) X E0 := fun _ _ _ _ _ _ _ h => by
  obtain ⟨_, _, _, _, _, _, _, _, _, _, _, _, z⟩ := h
  exact z.elim
/-- a def that lets nothing out, where a raising one is asked -/
theorem okToN {f : Addr} {fd : FuncData} {ps : List Str} {k : Nat} {sp : Sp} (F : FnOk P w K mg base CX0 k f fd ps sp) : FnOk P w K mg base (L2N.CX P w) k f fd ps sp :=
  ⟨F.len, fun A outer s H args us vs Q E hr he hb hv hs => codeAny_mono (F.run A outer s H args us vs Q E hr he hb hv hs) fun r s' q => by
    cases r with
    | error e => exact False.elim q
    | ok fl =>
      cases fl with
      | ret u => exact q
      | _ => exact False.elim q⟩
end

/-! ### defs called where an exception is held: the promise may speak of that exception -/
open L2H (RoomH Hot1 PinOk HotC cxH inv_startH roomH_of)
/-- a promise that speaks of the held exception: its address, its class, its dict -/
abbrev SpE := Addr → Value → Option Addr → Sp
structure FnE (P : Program) (w : World) (K : PySem.W.Frag) (mg : Str → Option Value) (base : Heap) (CX : CXT) (k : Nat) (f : Addr) (fd : FuncData) (ps : List Str) (sp : SpE) : Prop where
  len : ∀ a c d vs H Q E, sp a c d vs H Q E → vs.length = ps.length
  go : ∀ (p : Addr × Obj) (c : Value) (d : Option Addr) (A : Around) (outer : List Env) (s : Shared) (H : Hp) (args : Args) (us : List Value) (vs : List V) (Q : VK) (E : XK), L2N.Zn c d p.2 → (∃ fv, p.2.data = .fields fv) → RoomH k A → Hot1 A p → PinOk outer H s p →
    Env0 P w K mg base A outer s H → BindsTo s fd args (ps.zip us) → Vals vs us → sp p.1 c d vs H Q E → codeAny (model P w) A (.call (.ref f) args) (CR CX outer P w H s Q E) s
section
variable {P : Program} {w : World} {K : PySem.W.Frag} {mg : Str → Option Value} {base : Heap} {CX : CXT}
theorem okE {x qual : Str} {st : Stmt} {f : Addr} {fd : FuncData} {N ps : List Str} {k : Nat} {sp : SpE} (F : Fun K x qual st f fd) (S : FnScope N ps (defScope st)) (len : ∀ a c d vs H Q E, sp a c d vs H Q E → vs.length = ps.length)
    (hb : ∀ (cdv : Value) (A : Around) (outer : List Env) (s : Shared) (H : Hp) (vs : List V) (Q : VK) (E : XK) (p : Addr × Obj) (c : Value) (d : Option Addr), L2N.Zn c d p.2 → (∃ fv, p.2.data = .fields fv) → Hot1 A p → RoomH k (A.deeper (envOfC qual (defScope st) s.heap.objs.size f cdv)) → sp p.1 c d vs H Q E →
      ∃ t, PSs (cxH CX P w K mg base N qual (defScope st) f cdv A outer s H E p) (defBody st) t ∧ t { nx := fun _ H' => Q .non H', rt := Q } (L2.start N vs) H) :
    FnE P w K mg base CX (k + 1) f fd ps sp := by
  obtain ⟨oc, od, kV, doc, pm, an, cdv, ct, osl, rfl, lk, hcd⟩ := F.ex
  refine ⟨len, fun p c d A outer s H args us vs Q E hz hf hr hot hpin e0 hbd r hs => ?_⟩
  have hl := len _ _ _ _ _ _ _ hs
  have inK : K.In s.heap := e0.mod.kin.keeps fun b o e => (e0.bs b o e).1
  have free : s.heap.NoLimit := e0.mod.nolimit.keeps fun b o e => (e0.bs b o e).1
  have kinds : ∀ y ∈ ps.zip us, (defScope st).names.lookup y.1 = some .local ∨ ((defScope st).names.lookup y.1 = some .cell ∧ ((cellsFrom (s.heap.objs.size + 1) (defScope st).names []).lookup y.1).isSome = true) := fun y hy => by
    rcases S.par y.1 (List.of_mem_zip hy).1 with q | q
    · exact Or.inl q
    · exact Or.inr ⟨q, PySem.W.cellsFrom_some _ _ _ (Or.inl q)⟩
  refine codeAny_call_function hr.depth (inK _ _ lk) rfl S.co S.gen rfl (PySem.W.codeRec_of inK hcd) (hbd _ _ _ _ ?_)
  refine wpAny_newFunctionEnv_cells S.kind kinds fun env he s1 xx => ?_
  subst he
  refine ⟨free.keeps xx.toInCall.keep, codeAny_func ?_⟩
  obtain ⟨t, ht, hq⟩ := hb cdv A outer s H vs Q E p c d hz hf hot (hr.deeper _) hs
  have I : Inv (cxH CX P w K mg base N qual (defScope st) f cdv A outer s H E p) [] (L2.start N vs) H s1 := inv_startH S hpin e0 hl r xx
  refine wpAny_mono (ht.run [] s1 (L2.start N vs) H _ I hq) (fun fl s' z => ?_) fun e s' z => z
  cases fl with
  | ret u =>
    obtain ⟨v, σ', H', J, rv, q⟩ := z
    exact ⟨v, H', J.os, J.bare, J.base, J.hok, rv, q⟩
  | next =>
    obtain ⟨σ', H', J, q⟩ := z
    exact ⟨V.non, H', J.os, J.bare, J.base, J.hok, rfl, q⟩
  | brk => exact z.elim fun _ z => z.elim fun _ z => z.2.elim
  | cont => exact z.elim fun _ z => z.elim fun _ z => z.2.elim
end
/-- f(e, ..) where the exception at a is held -/
def tCallE (a : Addr) (c : Value) (d : Option Addr) (sp : SpE) (E : L2.St → XK) (t : TA) : TE := fun σ H Q => t σ H fun vs H1 => sp a c d vs H1 Q (E σ)
section
variable {X : Cx} {CX : CXT} {k : Nat} {f : Addr} {fd : FuncData} {ps : List Str} {sp : SpE} {E : L2.St → XK} {x : Str} {q pos : Pos} {e : Expr} {es : List Expr} {t : TA} {a : Addr} {oe : Obj} {c : Value} {d : Option Addr}
theorem pe_callE (F : FnE X.prog X.w X.K X.mg X.base CX k f fd ps sp) (hr : RoomH k X.A) (hz : L2N.Zn c d oe) (hf : ∃ fv, oe.data = .fields fv) (hot : Hot1 X.A (a, oe)) (hp : (a, oe) ∈ X.pn) (hg : Gl X x) (hm : X.mg x = some (.ref f)) (hk : PySem.W.keepIn X.K (.ref f) = true) (hb : Binds X.K fd ps [])
    (hx : ∀ σ, PassesAt CX X σ (E σ)) (ha : PA X (e :: es) t) (hdb : (x == ("__debug__" : Str)) = false := by decide)
    (he : starEach (e :: es) X.env = (false, eval e X.env) :: starEach es X.env := by rfl) (hpl : (backTo pos (starEach es X.env)).any (·.1) = false := by rfl) :
    PE X (.Call (.Name x q) (e :: es) [] pos) (tCallE a c d sp E t) := by
  refine ⟨fun pins s σ H Q I h => wpAny_Call_Name_kw (ld_glob I hg hm ?_ hdb)⟩
  refine PySem.W.callWith_K (h₀ := X.base) I.ok.mod.kin hk (thn (ha.run pos pins s σ H _ I h) fun us s1 ⟨vs, H1, J, r, z⟩ => ⟨J.kIn, ?_⟩) he hpl
  have hl : us.length = ps.length := r.length.symm.trans (F.len _ _ _ _ _ _ _ z)
  have bd := hb s1 us J.kIn (by rw [List.append_nil]; exact hl)
  rw [List.append_nil] at bd
  have P1 := J.pin (a, oe) (List.mem_append_left _ hp)
  have pk : PinOk X.stack H1 s1 (a, oe) := ⟨P1.1, P1.2.1, fun hm => (List.mem_cons.mp (J.stkSub a hm)).elim P1.2.2.1 P1.2.2.2.1, P1.2.2.2.2⟩
  refine wpAny_call (codeAny_mono (F.go (a, oe) c d X.A X.stack s1 H1 ⟨us, []⟩ us vs Q (E σ) hz hf hr hot pk J.env0 bd r z) fun r s' hq => ?_)
  cases r with
  | error e => exact hx σ pins H1 s1 e s' J hq
  | ok fl =>
    cases fl with
    | ret u => exact J.after hq
    | _ => exact False.elim hq
/-- isinstance(e, c), e the exception that is held -/
def rIsP (K : PySem.W.Frag) (D a : Addr) : List V → Hp → VK → Prop := fun xs H Q => ∃ (c : V) (cv : Value) (b : Bool), xs = [.ref a, c] ∧ (∀ u, RelV c u → u = cv) ∧ PySem.W.kitOne K (.ref D) cv = some b ∧ Q (.bl b) H
theorem call_isP {a D : Addr} {oe : Obj} (C : ExcC X.K D) (hp : (a, oe) ∈ X.pn) (hz : Zc (.ref D) none oe) (hf : ∃ vs, oe.data = .fields vs) : CallR X (.builtin "isinstance") (rIsP X.K D a) := by
  intro pins s σ H xs us Q I r h
  obtain ⟨c, cv, b, rfl, hcv, e, q⟩ := h
  obtain ⟨u1, u2, rfl, r1, r2⟩ := vals2 r
  cases r1
  have ec := hcv _ r2
  subst ec
  obtain ⟨hget, _⟩ := I.pin (a, oe) (List.mem_append_left _ hp)
  obtain ⟨vs, hv⟩ := hf
  have J : PySem.W.InstAt s.heap a oe D none := by
    obtain ⟨oc, od, oda, osl⟩ := oe
    obtain ⟨h1, h2⟩ := hz
    dsimp only at h1 h2 hv
    subst h1 h2 hv
    exact ⟨hget, rfl, rfl, trivial⟩
  exact PySem.W.kia_one (PySem.W.handS_kitx_exc C.hg C.hk C.hs C.hd C.ha C.hn C.ht C.hm) I.kIn J e (fun z => nomatch z) fun tk => ⟨.bl b, H, I.tok tk, rfl, q⟩
end

/-! ### xs.count(True) of a list of truths -/
def eqB (b : Bool) : Value → Bool
  | .bool c => c == b
  | _ => false
def rCntB (K : PySem.W.Frag) : V → List V → Hp → VK → Prop := fun x xs H Q => ∃ (p : Addr) (bs : List Bool) (b : Bool), x = .ref p ∧ xs = [.bl b] ∧ SqL K H p (bs.map V.bl) ∧ Q (.int (bs.count b : Nat)) H
theorem vals_bools : ∀ {bs : List Bool} {us : List Value}, Vals (bs.map V.bl) us → us = bs.map Value.bool
  | [], _, .nil => rfl
  | b :: bs, _, .cons r t => by
    cases r
    rw [vals_bools (bs := bs) t]
    rfl
theorem count_eqB (b : Bool) : ∀ bs : List Bool, (bs.map Value.bool).countP (eqB b) = bs.count b
  | [] => rfl
  | c :: bs => by
    rw [List.map_cons, List.countP_cons, List.count_cons, count_eqB b bs]
    rfl
theorem mt_countB {X : Cx} : MtR X "list.count" (rCntB X.K) := by
  intro pins s σ H x xs v us Q I rx rxs h
  obtain ⟨p, bs, b, rfl, rfl, hs, q⟩ := h
  cases rx
  obtain ⟨u, rfl, ru⟩ := vals1 rxs
  cases ru
  obtain ⟨its, rv, ⟨⟨cls, dd, data, sl⟩, n, ho, hc, hdn, hd⟩, hlen⟩ := I.list hs
  simp only at hc hd
  subst hc hd
  have ei := vals_bools rv
  subst ei
  refine call_meets PySem.F.slot_list_count ⟨_, ho, rfl⟩ PySem.F.entry_list_count (PySem.F.args_list_count_2 _ _)
    (SeqAt.list_countAt p _ n dd sl (.bool b) (eqB b)) ⟨ho, fun y hy => ?_, ?_⟩
  · have hy' : y ∈ bs.map Value.bool := by simpa using hy
    obtain ⟨c, _, rfl⟩ := List.mem_map.mp hy'
    exact SeqAt.EqAt.bool_bool c b
  · have ec : (bs.map Value.bool).toArray.toList.countP (eqB b) = bs.count b := count_eqB b bs
    refine ⟨.int (bs.count b : Nat), H, I.tok _, ⟨s.toks, ?_⟩, q⟩
    rw [ec]
end HL


namespace HL
open PySem PySem.Spec PyProof.Rows L2
/-! ### t * k of a tuple, any small k -/
theorem rep_one (l : Addr) (items : Array Value) (n : Nat) (dd : Option Addr) (sl : Array (Option Value)) (x : Int) (u : Tok) (hx : (items.isEmpty || x == 1) = true) (c0 : (decide (x < -(2 ^ 63)) || decide (x ≥ 2 ^ 63)) = false) :
    Meets (Builtin.«tuple.__mul__» ⟨[.ref l, .int x u], []⟩) (fun _ R s => s.heap.get? l = some { cls := .type "tuple", dict := dd, data := .seq items n, slots := sl } ∧ R (.ok (.ret (Value.ref l))) { s with heap := s.heap, toks := s.toks }) :=
  .of_wp fun prog w A R s h => by
    obtain ⟨hp, g, d, tk, os⟩ := s
    obtain ⟨hl, h⟩ := h
    have f1 := AutoSeq1.idx_int
    wp_walk using wpAny_loadPart' hl
    repeat (first
      | (refine wpAny_ite_false (decide_eq_false (by rw [c0]; exact Bool.false_ne_true)) ?_; wp_walk using wpAny_loadPart' hl)
      | (refine wpAny_ite_true (decide_eq_true hx) ?_; wp_walk using wpAny_loadPart' hl))
    exact ⟨_, rfl, h⟩
theorem rep_none (l : Addr) (items : Array Value) (n : Nat) (dd : Option Addr) (sl : Array (Option Value)) (x : Int) (u : Tok) (c0 : (decide (x < -(2 ^ 63)) || decide (x ≥ 2 ^ 63)) = false) (c1 : (items.isEmpty || x == 1) = false) (c2 : (decide (x ≤ 0) || items.isEmpty) = true) :
    Meets (Builtin.«tuple.__mul__» ⟨[.ref l, .int x u], []⟩) (fun _ R s => s.heap.get? l = some { cls := .type "tuple", dict := dd, data := .seq items n, slots := sl } ∧
      R (.ok (.ret (Value.ref s.heap.objs.size))) { s with heap := s.heap.push { cls := Value.type "tuple", data := Data.seq #[] }, toks := s.toks }) :=
  .of_wp fun prog w A R s h => by
    obtain ⟨hp, g, d, tk, os⟩ := s
    obtain ⟨hl, h⟩ := h
    have f1 := AutoSeq1.idx_int
    wp_walk using wpAny_loadPart' hl
    repeat (first
      | (refine wpAny_ite_false (decide_eq_false (by rw [c0]; exact Bool.false_ne_true)) ?_; wp_walk using wpAny_loadPart' hl)
      | (refine wpAny_ite_false (decide_eq_false (by rw [c1]; exact Bool.false_ne_true)) ?_; wp_walk using wpAny_loadPart' hl)
      | (refine wpAny_ite_true (decide_eq_true c2) ?_; wp_walk using wpAny_loadPart' hl))
    exact ⟨_, rfl, h⟩
/-- t * k: t itself by 1 (and where it is empty), else a new one -/
def rRepA (K : PySem.W.Frag) : R2 := fun x y H Q => ∃ l k xs, x = .ref l ∧ y = .int k ∧ SqT K H l xs ∧ xs ≠ [] ∧ -1000 ≤ k ∧ k ≤ 1000 ∧ xs.length ≤ 1000 ∧
  ∀ p H', Same H H' → SqT K H' p (List.replicate k.toNat xs).flatten → Q (.ref p) H'
section
variable {X : Cx}
theorem op_repA : OpR X (binaryOp .Mult) (rRepA X.K) := by
  intro pins s σ H x y v u Q I rx ry h
  obtain ⟨l, k, xs, rfl, rfl, hT, hne, h1, h2, hz, q⟩ := h
  by_cases c : 2 ≤ k
  · exact op_repT pins s σ H _ _ v u Q I rx ry ⟨l, k, xs, rfl, rfl, hT, hne, c, h2, hz, fun p hp => q p _ (same_new hp) (SqT.of upd_same)⟩
  cases rx
  obtain ⟨t, rfl⟩ := ry
  obtain ⟨its, r, ⟨⟨cls, dd, data, sl⟩, ho, hc, n, hd⟩, hs⟩ := I.tuple hT
  simp only at hc hd
  subst hc hd
  have hle : its.length = xs.length := r.length.symm
  have hn : its ≠ [] := fun e => hne (by
    rw [e] at hle
    exact List.eq_nil_of_length_eq_zero hle.symm)
  have hi : its.toArray.isEmpty = false := by
    cases its with
    | nil => exact absurd rfl hn
    | cons a b => rfl
  have c0 : (decide (k < -(2 ^ 63)) || decide (k ≥ 2 ^ 63)) = false := by
    rw [decide_eq_false (by omega), decide_eq_false (by omega)] <;> rfl
  by_cases k1 : k = 1
  · subst k1
    refine wpAny_binaryOp_repeat_ref (T := "tuple") (U := "int") (by decide) ⟨_, ho, rfl⟩ (fun s' => typeIs_int s' 1 t) noFill_tuple_mul F.fills_int_mul F.slot_int_rmul repeat_tuple F.slot_int_index.lookup
      (call_meets F.slot_int_rmul (typeIs_int s 1 t) F.entry_int_rmul (F.args_int_rmul_2 _ _) (int_rmul_tuple 1 t l its.toArray n dd sl)
        ⟨ho, rfl, ⟨_, ho, rfl⟩, call_meets F.slot_tuple_mul ⟨_, ho, rfl⟩ F.entry_tuple_mul (F.args_tuple_mul_2 _ _) (rep_one l its.toArray n dd sl 1 t (by rw [hi]; rfl) c0) ⟨ho, ?_⟩⟩)
    exact ⟨.ref l, H, I, rfl, q l H (Same.refl H) (by
      have e : (List.replicate (1 : Int).toNat xs).flatten = xs := by
        show (List.replicate 1 xs).flatten = xs
        rw [List.replicate_one, List.flatten_singleton]
      rw [e]
      exact hT)⟩
  · have c1 : (its.toArray.isEmpty || k == 1) = false := by
      rw [hi, Bool.false_or]
      exact beq_eq_false_iff_ne.mpr k1
    have c2 : (decide (k ≤ 0) || its.toArray.isEmpty) = true := by
      rw [decide_eq_true (by omega), Bool.true_or]
    refine wpAny_binaryOp_repeat_ref (T := "tuple") (U := "int") (by decide) ⟨_, ho, rfl⟩ (fun s' => typeIs_int s' k t) noFill_tuple_mul F.fills_int_mul F.slot_int_rmul repeat_tuple F.slot_int_index.lookup
      (call_meets F.slot_int_rmul (typeIs_int s k t) F.entry_int_rmul (F.args_int_rmul_2 _ _) (int_rmul_tuple k t l its.toArray n dd sl)
        ⟨ho, rfl, ⟨_, ho, rfl⟩, call_meets F.slot_tuple_mul ⟨_, ho, rfl⟩ F.entry_tuple_mul (F.args_tuple_mul_2 _ _) (rep_none l its.toArray n dd sl k t c0 c1 c2) ⟨ho, ?_⟩⟩)
    have e : (List.replicate k.toNat xs).flatten = [] := by
      rw [show k.toNat = 0 by omega]
      rfl
    refine ⟨.ref s.heap.objs.size, _, I.laid (t' := s.toks) (o := .tup []) (fun b ob q => Heap.get?_push_of_some _ q) (Nat.le_refl _) ?_, rfl, q _ _ (same_new (I.hok.fresh (Nat.le_refl _))) (by rw [e]; exact SqT.of upd_same)⟩
    exact ⟨Nat.zero_le _, [], .nil, IsTup.new _ _⟩
end
end HL


namespace HL
open PySem PySem.Spec PyProof.Rows L2
/-! ### the program's own errors -/
/-- what the top has written of one error class -/
structure ExT (K : PySem.W.Frag) (mg : Str → Option Value) (C : Addr) (x : Str) : Prop where
  gl : mg x = some (.ref C)
  ex : PySem.W.excIn K C [.type "ValueError", .type "Exception", .type "BaseException", .type "object"] "ValueError.__new__" = true
  kp : PySem.W.keepIn K (.ref C) = true
  ba : PySem.W.subIn K (.ref C) (.type "BaseException") = some true
  ty : PySem.W.typeIn K (.ref C) = some (.type "type")
  cl : PySem.W.isClsIn K C = true
  va : PySem.W.subIn K (.ref C) (.type "ValueError") = some true
  ec : ExcC K C
/-- the six kinds of refusal and their common base -/
structure Fam (K : PySem.W.Frag) (cs : List Addr) (cH : Addr) : Prop where
  sub : ∀ (i j : Nat) (C D : Addr), cs[i]? = some C → cs[j]? = some D → PySem.W.subIn K (.ref C) (.ref D) = some (decide (i = j))
  top : ∀ (i : Nat) (C : Addr), cs[i]? = some C → PySem.W.subIn K (.ref C) (.ref cH) = some true
theorem fam_mk {K : PySem.W.Frag} {c0 c1 c2 c3 c4 c5 cH : Addr} (h00 : PySem.W.subIn K (.ref c0) (.ref c0) = some true) (h01 : PySem.W.subIn K (.ref c0) (.ref c1) = some false) (h02 : PySem.W.subIn K (.ref c0) (.ref c2) = some false) (h03 : PySem.W.subIn K (.ref c0) (.ref c3) = some false) (h04 : PySem.W.subIn K (.ref c0) (.ref c4) = some false) (h05 : PySem.W.subIn K (.ref c0) (.ref c5) = some false) (h0H : PySem.W.subIn K (.ref c0) (.ref cH) = some true) (h10 : PySem.W.subIn K (.ref c1) (.ref c0) = some false) (h11 : PySem.W.subIn K (.ref c1) (.ref c1) = some true) (h12 : PySem.W.subIn K (.ref c1) (.ref c2) = some false) (h13 : PySem.W.subIn K (.ref c1) (.ref c3) = some false) (h14 : PySem.W.subIn K (.ref c1) (.ref c4) = some false) (h15 : PySem.W.subIn K (.ref c1) (.ref c5) = some false) (h1H : PySem.W.subIn K (.ref c1) (.ref cH) = some true) (h20 : PySem.W.subIn K (.ref c2) (.ref c0) = some false) (h21 : PySem.W.subIn K (.ref c2) (.ref c1) = some false) (h22 : PySem.W.subIn K (.ref c2) (.ref c2) = some true) (h23 : PySem.W.subIn K (.ref c2) (.ref c3) = some false) (h24 : PySem.W.subIn K (.ref c2) (.ref c4) = some false) (h25 : PySem.W.subIn K (.ref c2) (.ref c5) = some false) (h2H : PySem.W.subIn K (.ref c2) (.ref cH) = some true) (h30 : PySem.W.subIn K (.ref c3) (.ref c0) = some false) (h31 : PySem.W.subIn K (.ref c3) (.ref c1) = some false) (h32 : PySem.W.subIn K (.ref c3) (.ref c2) = some false) (h33 : PySem.W.subIn K (.ref c3) (.ref c3) = some true) (h34 : PySem.W.subIn K (.ref c3) (.ref c4) = some false) (h35 : PySem.W.subIn K (.ref c3) (.ref c5) = some false) (h3H : PySem.W.subIn K (.ref c3) (.ref cH) = some true) (h40 : PySem.W.subIn K (.ref c4) (.ref c0) = some false) (h41 : PySem.W.subIn K (.ref c4) (.ref c1) = some false) (h42 : PySem.W.subIn K (.ref c4) (.ref c2) = some false) (h43 : PySem.W.subIn K (.ref c4) (.ref c3) = some false) (h44 : PySem.W.subIn K (.ref c4) (.ref c4) = some true) (h45 : PySem.W.subIn K (.ref c4) (.ref c5) = some false) (h4H : PySem.W.subIn K (.ref c4) (.ref cH) = some true) (h50 : PySem.W.subIn K (.ref c5) (.ref c0) = some false) (h51 : PySem.W.subIn K (.ref c5) (.ref c1) = some false) (h52 : PySem.W.subIn K (.ref c5) (.ref c2) = some false) (h53 : PySem.W.subIn K (.ref c5) (.ref c3) = some false) (h54 : PySem.W.subIn K (.ref c5) (.ref c4) = some false) (h55 : PySem.W.subIn K (.ref c5) (.ref c5) = some true) (h5H : PySem.W.subIn K (.ref c5) (.ref cH) = some true) : Fam K [c0, c1, c2, c3, c4, c5] cH := by
  refine ⟨fun i j C D hi hj => ?_, fun i C hi => ?_⟩
  · rcases i with _ | _ | _ | _ | _ | _ | i <;> rcases j with _ | _ | _ | _ | _ | _ | j <;>
      first
      | (have ei := Option.some.inj hi; have ej := Option.some.inj hj; subst ei ej; assumption)
      | (simp at hi; done)
      | (simp at hj; done)
  · rcases i with _ | _ | _ | _ | _ | _ | i <;>
      first
      | (have ei := Option.some.inj hi; subst ei; assumption)
      | (simp at hi; done)
section
variable {K : PySem.W.Frag} {mg : Str → Option Value} {cs : List Addr} {cH : Addr}
theorem kitCls_ref {t : Value} {D : Addr} {x : Str} {b : Bool} (d : ExT K mg D x) (h : PySem.W.subIn K t (.ref D) = some b) : PySem.W.kitCls K t (.ref D) = some b := by
  have e : ((PySem.W.clsIn K D).isSome && PySem.W.typeIn K (.ref D) == some (.type "type")) = true := by
    have q : (PySem.W.clsIn K D).isSome = true := d.cl
    rw [q, d.ty]
    rfl
  show (if ((PySem.W.clsIn K D).isSome && PySem.W.typeIn K (.ref D) == some (.type "type")) = true then PySem.W.subIn K t (.ref D) else none) = some b
  rw [if_pos e]
  exact h
theorem kitOne_ref {C D : Addr} {x : Str} {b : Bool} (d : ExT K mg D x) (h : PySem.W.subIn K (.ref C) (.ref D) = some b) (hb : C = D → b = true) : PySem.W.kitOne K (.ref C) (.ref D) = some b := by
  show (if (Value.ref C == Value.ref D) = true then some true else PySem.W.kitCls K (.ref C) (.ref D)) = some b
  by_cases q : C = D
  · rw [hb q, q]
    simp
  · have z : ¬ (Value.ref C == Value.ref D) = true := by simpa using q
    rw [if_neg z]
    exact kitCls_ref d h
theorem Fam.one (F : Fam K cs cH) {i j : Nat} {C D : Addr} {x : Str} (hi : cs[i]? = some C) (hj : cs[j]? = some D) (d : ExT K mg D x) : PySem.W.kitOne K (.ref C) (.ref D) = some (decide (i = j)) := by
  refine kitOne_ref d (F.sub i j C D hi hj) fun e => ?_
  subst e
  have a := F.sub i j C C hi hj
  have b := F.sub i i C C hi hi
  rw [a] at b
  have c := Option.some.inj b
  rw [c]
  exact decide_eq_true rfl
theorem Fam.heal (F : Fam K cs cH) {i : Nat} {C : Addr} {x : Str} (hi : cs[i]? = some C) (d : ExT K mg cH x) : PySem.W.kitOne K (.ref C) (.ref cH) = some true := kitOne_ref d (F.top i C hi) fun _ => rfl
theorem ExT.val {C : Addr} {x : Str} (d : ExT K mg C x) : PySem.W.kitOne K (.ref C) (.type "ValueError") = some true := by
  show (if (Value.ref C == Value.type "ValueError") = true then some true else (if PySem.W.kitMeta "ValueError" = true then PySem.W.subIn K (.ref C) (.type "ValueError") else none)) = some true
  rw [if_neg (by simp), if_pos (by decide +kernel)]
  exact d.va
theorem Fam.caught (F : Fam K cs cH) {i : Nat} {C : Addr} {x : Str} (hi : cs[i]? = some C) (d : ExT K mg cH x) : PySem.W.exmOne K (.ref C) (.ref cH) = some true :=
  PySem.W.exm_ref d.ba d.ec.hd d.ty (F.top i C hi)
end
theorem iteT' {c : Bool} {A B : Prop} (h : c = true) (a : A) : if c = true then A else B := by
  rw [if_pos h]
  exact a
theorem iteF' {c : Bool} {A B : Prop} (h : c = false) (b : B) : if c = true then A else B := by
  rw [h, if_neg Bool.false_ne_true]
  exact b
/-! ### a list that grows, made behind H0 -/
def ListAt (H0 : Hp) (D : Addr) (l : List V) (H : Hp) : Prop := Same H0 H ∧ H0 D = none ∧ H D = some (.lst l)
theorem ListAt.mk0 {H0 H : Hp} {D : Addr} {l : List V} (s : Same H0 H) (n : H D = none) : ListAt H0 D l (upd H D (.lst l)) := ⟨s.trans (same_new n), s.free n, upd_same⟩
theorem ListAt.on {H0 H H' : Hp} {D : Addr} {l : List V} (h : ListAt H0 D l H) (e : Same H H') : ListAt H0 D l H' := ⟨h.1.trans e, h.2.1, e _ _ h.2.2⟩
theorem ListAt.put {H0 H : Hp} {D : Addr} {l : List V} (l' : List V) (h : ListAt H0 D l H) : ListAt H0 D l' (upd H D (.lst l')) :=
  ⟨fun b o e => by
    have nb : b ≠ D := ne_of_none e h.2.1
    rw [upd_ne nb]
    exact h.1 _ _ e, h.2.1, upd_same⟩
/-- the list is written: what else was tracked behind stands -/
theorem ListAt.wr {H0 H : Hp} {D : Addr} {l l' : List V} (h : ListAt H0 D l H) {b : Addr} {o : HO} (e : H b = some o) (ne : b ≠ D) : upd H D (.lst l') b = some o := (upd_ne ne).trans e
/-- a tuple stands where a list is written -/
theorem seqT_wr {K : PySem.W.Frag} {H : Hp} {l a : Addr} {xs ys zs : List V} (hl : H l = some (.lst xs)) (h : SqT K H a ys) : SqT K (upd H l (.lst zs)) a ys := by
  rcases h with (h | ⟨o, h⟩) | h
  · exact Or.inl (Or.inl ((upd_ne (ne_of h hl (by intro q; cases q))).trans h))
  · exact Or.inl (Or.inr ⟨o, (upd_ne (ne_of h hl (by intro q; cases q))).trans h⟩)
  · exact Or.inr h
theorem ListAt.push {H0 H H' : Hp} {D : Addr} {l l' : List V} {y : V} (h : ListAt H0 D l H) (e : Same H H') (hz : l.length ≤ 1000000) (hl : l' = l ++ [y]) :
    ∃ acc, H' D = some (.lst acc) ∧ acc.length < sizeLine ∧ ListAt H0 D l' (upd H' D (.lst (acc ++ [y]))) := by
  subst hl
  exact ⟨l, e _ _ h.2.2, Nat.lt_of_le_of_lt hz (by rw [sizeLine_eq]; decide), (h.on e).put _⟩
theorem range_map_succ {α : Type} (f : Nat → α) (i : Nat) : (List.range (i + 1)).map f = (List.range i).map f ++ [f i] := by
  rw [List.range_succ, List.map_append]
  rfl
theorem range_fil_yes {p : Nat → Bool} {i : Nat} (h : p i = true) : (List.range (i + 1)).filter p = (List.range i).filter p ++ [i] := by
  rw [List.range_succ, List.filter_append, List.filter_cons, if_pos h]
  rfl
theorem range_fil_no {p : Nat → Bool} {i : Nat} (h : p i = false) : (List.range (i + 1)).filter p = (List.range i).filter p := by
  rw [List.range_succ, List.filter_append, List.filter_cons, if_neg (by rw [h]; exact Bool.false_ne_true)]
  simp
theorem same_upd2 {H0 H : Hp} {p : Addr} {o : HO} (s : Same H0 H) (n : H p = none) : Same H0 (upd H p o) := s.trans (same_new n)
theorem small63 {n : Nat} (h : n ≤ 1000) : n ≤ sizeLine := Nat.le_of_lt (small1000 h)
/-- an item by its place, of a list of ints -/
theorem at_int {r : List Int} {z : Int} {k : Nat} (e : z = (k : Int)) (h : k < r.length) : atI (r.map V.int) z = some (.int (r.getD k 0)) := by
  refine at_of e ?_
  rw [List.getElem?_map, List.getElem?_eq_getElem h, List.getD_eq_getElem?_getD, List.getElem?_eq_getElem h]
  rfl
/-- the last item -/
theorem at_end {r : List Int} (h : 0 < r.length) : atI (r.map V.int) (-1) = some (.int (r.getD (r.length - 1) 0)) := by
  have hne : r ≠ [] := fun e => by
    subst e
    exact absurd h (Nat.lt_irrefl 0)
  have e := List.dropLast_concat_getLast hne
  have q : r.map V.int = r.dropLast.map V.int ++ [.int (r.getLast hne)] := by
    rw [← List.map_singleton, ← List.map_append, e]
  rw [q, atI_last, List.getD_eq_getElem?_getD, List.getElem?_eq_getElem (by omega), List.getLast_eq_getElem]
  rfl
theorem at_lastN {xs : List V} {n : Nat} {v : V} (hl : xs.length = n + 1) (hv : xs[n]? = some v) : atI xs (-1) = some v := by
  have e : ixN xs.length (-1) = some n := by
    unfold ixN
    rw [hl, if_neg (by decide), if_pos (by omega)]
    congr 1
    omega
  unfold atI
  rw [e]
  exact hv
theorem ixN_nat {n k : Nat} (h : k < n) : ixN n (k : Int) = some k := by
  unfold ixN
  rw [if_pos (by omega), if_pos (by omega)]
  congr 1
theorem tyes {σ : L2.St} {H : Hp} {F G : Hp → Prop} (h : F H) : tYes σ H (fun b H3 => if b = true then F H3 else G H3) := by
  show if true = true then F H else G H
  rw [if_pos rfl]
  exact h
/-! ### tuples: a slice, a sum: some tuple of those items -/
section
variable {X : Cx}
def rSlB (K : PySem.W.Frag) : V → Option Int → Option Int → Hp → VK → Prop := fun x lo hi H Q => ∃ a xs, x = .ref a ∧ SqT K H a xs ∧ ∀ p H', Same H H' → SqT K H' p (cutV xs lo hi) → Q (.ref p) H'
theorem cutV_whole {xs : List V} {lo hi : Option Int} (h : HT.sIx xs.length 0 lo = 0 ∧ HT.sIx xs.length xs.length hi = xs.length) : cutV xs lo hi = xs := by
  unfold cutV
  rw [h.1, h.2, List.drop_zero, Nat.sub_zero, List.take_length]
theorem sl_tupB : SlR X (rSlB X.K) := by
  intro pins s σ H x v vl vu lo hi sl Q I rx hs pl pu h
  obtain ⟨a, xs, rfl, hx, q⟩ := h
  exact sl_tupA pins s σ H _ v vl vu lo hi sl Q I rx hs pl pu ⟨a, xs, rfl, hx, fun z => q a H (Same.refl H) (by rw [cutV_whole z]; exact hx), fun _ p hp => q p _ (same_new hp) (SqT.of upd_same)⟩
def rCatB (K : PySem.W.Frag) : R2 := fun x y H Q => ∃ a b xs ys, x = .ref a ∧ y = .ref b ∧ SqT K H a xs ∧ SqT K H b ys ∧ xs.length + ys.length ≤ sizeLine ∧ ∀ p H', Same H H' → SqT K H' p (xs ++ ys) → Q (.ref p) H'
theorem op_catB : OpR X (binaryOp .Add) (rCatB X.K) := by
  intro pins s σ H x y v u Q I rx ry h
  obtain ⟨a, b, xs, ys, rfl, rfl, ha, hb, hz, q⟩ := h
  exact op_catA pins s σ H _ _ v u Q I rx ry ⟨a, b, xs, ys, rfl, rfl, ha, hb, hz, fun z => q b H (Same.refl H) (by rw [z]; exact hb), fun _ z => q a H (Same.refl H) (by rw [z, List.append_nil]; exact ha), fun _ _ p hp => q p _ (same_new hp) (SqT.of upd_same)⟩
theorem cut_to (xs : List V) (k : Nat) : cutV xs none (some (k : Int)) = xs.take k := by
  unfold cutV
  rw [HT.sIx_none, HT.sIx_nat, List.drop_zero, Nat.sub_zero]
  by_cases h : k ≤ xs.length
  · rw [Nat.min_eq_left h]
  · rw [Nat.min_eq_right (by omega), List.take_length, List.take_of_length_le (by omega)]
theorem cut_from (xs : List V) (k : Nat) : cutV xs (some (k : Int)) none = xs.drop k := by
  unfold cutV
  rw [HT.sIx_none, HT.sIx_nat]
  have h : ∀ j : Nat, (xs.drop j).take (xs.length - j) = xs.drop j := fun j => List.take_of_length_le (by rw [List.length_drop]; omega)
  by_cases c : k ≤ xs.length
  · rw [Nat.min_eq_left c, h]
  · rw [Nat.min_eq_right (by omega), h, List.drop_of_length_le (Nat.le_refl _), List.drop_of_length_le (by omega)]
end
/-! ### names for the readings of len, list, tuple -/
def rLen (K : PySem.W.Frag) : List V → Hp → VK → Prop := fun xs H Q => ∃ p ys, xs = [.ref p] ∧ (SqL K H p ys ∨ SqT K H p ys) ∧ Q (.int ys.length) H
theorem call_lenK {X : Cx} : CallR X (.builtin "len") (rLen X.K) := call_len_seq
def rListOf (K : PySem.W.Frag) : List V → Hp → VK → Prop := fun xs H Q => ∃ p ys, xs = [.ref p] ∧ (SqL K H p ys ∨ SqT K H p ys) ∧ ∀ l, H l = none → Q (.ref l) (upd H l (.lst ys))
theorem call_listK {X : Cx} : CallR X (.type "list") (rListOf X.K) := call_list_of
def rTupOf (K : PySem.W.Frag) : List V → Hp → VK → Prop := fun xs H Q => ∃ p ys, xs = [.ref p] ∧ ((SqL K H p ys ∧ ∀ l, H l = none → Q (.ref l) (upd H l (.tup ys))) ∨ (SqT K H p ys ∧ Q (.ref p) H))
theorem call_tupK {X : Cx} : CallR X (.type "tuple") (rTupOf X.K) := call_tuple_of
/-! ### lists and tuples alike -/
abbrev SqX (K : PySem.W.Frag) (H : Hp) (a : Addr) (xs : List V) : Prop := SqL K H a xs ∨ SqT K H a xs
theorem seqX_same {K : PySem.W.Frag} {H H' : Hp} {a : Addr} {xs : List V} (e : Same H H') (h : SqX K H a xs) : SqX K H' a xs := h.elim (fun z => Or.inl (e.seq z)) fun z => Or.inr (seqT_same e z)
section
variable {X : Cx}
def rIxX (K : PySem.W.Frag) : R2 := fun x y H Q => ∃ p xs i v, x = .ref p ∧ y = .int i ∧ SqX K H p xs ∧ atI xs i = some v ∧ Q v H
theorem ix_any : IxR X (rIxX X.K) := by
  intro value slice pins s σ H x y v u Q I rx ry h hs
  obtain ⟨p, xs, i, z, e1, e2, hq, he, q⟩ := h
  rcases hq with hq | hq
  · exact ix_list value slice pins s σ H x y v u Q I rx ry ⟨p, xs, i, z, e1, e2, hq, he, q⟩ hs
  · exact ix_tup value slice pins s σ H x y v u Q I rx ry ⟨p, xs, i, z, e1, e2, hq, he, q⟩ hs
end
/-- what isinstance asks of a tuple, of a list -/
theorem tyx_tup {K : PySem.W.Frag} {H : Hp} {a : Addr} {xs : List V} (h : SqT K H a xs) : TyX K H (.ref a) (.type "tuple") := by
  rcases h with (h | ⟨o, h⟩) | ⟨o, _, _, h, c, _⟩
  · exact .base (.tup h)
  · exact .fTuple h
  · exact .kTuple h c
theorem tyx_lst {K : PySem.W.Frag} {H : Hp} {a : Addr} {xs : List V} (h : SqL K H a xs) : TyX K H (.ref a) (.type "list") := by
  rcases h with (h | ⟨o, h⟩) | ⟨o, _, _, h, c, _⟩
  · exact .base (.lst h)
  · exact .base (.frz h)
  · exact .kList h c
/-- two values alike, tuples within tuples to the depth n -/
def Alike (K : PySem.W.Frag) (H : Hp) : Nat → V → V → Prop
  | 0, x, y => ∃ z, x = .int z ∧ y = .int z
  | n + 1, x, y => (∃ z, x = .int z ∧ y = .int z) ∨ ∃ a b xs ys, x = .ref a ∧ y = .ref b ∧ SqT K H a xs ∧ SqT K H b ys ∧ xs.length = ys.length ∧ xs.length ≤ 1000 ∧ ∀ (i : Nat) (u v : V), xs[i]? = some u → ys[i]? = some v → Alike K H n u v
theorem Alike.on {K : PySem.W.Frag} {H H' : Hp} (e : Same H H') : ∀ {n : Nat} {x y : V}, Alike K H n x y → Alike K H' n x y
  | 0, _, _, h => h
  | n + 1, _, _, Or.inl h => Or.inl h
  | n + 1, _, _, Or.inr ⟨a, b, xs, ys, h1, h2, h3, h4, h5, h6, h7⟩ => Or.inr ⟨a, b, xs, ys, h1, h2, seqT_same e h3, seqT_same e h4, h5, h6, fun i u v z1 z2 => Alike.on e (h7 i u v z1 z2)⟩
theorem alike_ints {K : PySem.W.Frag} {H : Hp} {a b : Addr} {r : List Int} (h1 : SqT K H a (r.map V.int)) (h2 : SqT K H b (r.map V.int)) (hl : r.length ≤ 1000) : Alike K H 1 (.ref a) (.ref b) := by
  refine Or.inr ⟨a, b, _, _, rfl, rfl, h1, h2, rfl, by rw [List.length_map]; exact hl, fun i u v z1 z2 => ?_⟩
  have e : u = v := Option.some.inj (z1.symm.trans z2)
  subst e
  rw [List.getElem?_map] at z1
  cases q : r[i]? with
  | none =>
    rw [q] at z1
    cases z1
  | some z =>
    rw [q] at z1
    exact ⟨z, (Option.some.inj z1).symm, (Option.some.inj z1).symm⟩
/-- tuples of ints, each by its address -/
def TupsAt (K : PySem.W.Frag) (H : Hp) (ts : List Addr) (rs : List (List Int)) : Prop := ts.length = rs.length ∧ ∀ (i : Nat) (t : Addr) (r : List Int), ts[i]? = some t → rs[i]? = some r → SqT K H t (r.map V.int)
theorem TupsAt.on {K : PySem.W.Frag} {H H' : Hp} {ts : List Addr} {rs : List (List Int)} (h : TupsAt K H ts rs) (e : Same H H') : TupsAt K H' ts rs := ⟨h.1, fun i t r a b => seqT_same e (h.2 i t r a b)⟩
theorem TupsAt.one {K : PySem.W.Frag} {H : Hp} {t : Addr} {r : List Int} (h : SqT K H t (r.map V.int)) : TupsAt K H [t] [r] := ⟨rfl, fun i t' r' a b => by
  rcases i with _ | i
  · have e1 : t = t' := Option.some.inj a
    have e2 : r = r' := Option.some.inj b
    subst e1 e2
    exact h
  · cases a⟩
theorem TupsAt.wr {K : PySem.W.Frag} {H : Hp} {l : Addr} {xs zs : List V} {ts : List Addr} {rs : List (List Int)} (h : TupsAt K H ts rs) (hl : H l = some (.lst xs)) : TupsAt K (upd H l (.lst zs)) ts rs := ⟨h.1, fun i t r a b => seqT_wr hl (h.2 i t r a b)⟩
theorem TupsAt.push {K : PySem.W.Frag} {H : Hp} {ts : List Addr} {rs : List (List Int)} {t : Addr} {r : List Int} (h : TupsAt K H ts rs) (ht : SqT K H t (r.map V.int)) : TupsAt K H (ts ++ [t]) (rs ++ [r]) := by
  refine ⟨by rw [List.length_append, List.length_append, h.1]; rfl, fun i t' r' a b => ?_⟩
  by_cases c : i < ts.length
  · rw [List.getElem?_append_left c] at a
    rw [List.getElem?_append_left (by rw [← h.1]; exact c)] at b
    exact h.2 i t' r' a b
  · rw [List.getElem?_append_right (by omega)] at a
    rw [List.getElem?_append_right (by rw [← h.1]; omega)] at b
    have c0 : i - ts.length = 0 := by
      have := (List.getElem?_eq_some_iff.mp a).1
      rw [List.length_singleton] at this
      omega
    rw [c0] at a
    rw [← h.1, c0] at b
    have e1 : t = t' := Option.some.inj a
    have e2 : r = r' := Option.some.inj b
    subst e1 e2
    exact ht
theorem tups_at {ts : List Addr} {i : Nat} {u : V} (h : (ts.map V.ref)[i]? = some u) : ∃ t, ts[i]? = some t ∧ u = .ref t := by
  rw [List.getElem?_map] at h
  cases q : ts[i]? with
  | none =>
    rw [q] at h
    cases h
  | some t =>
    rw [q] at h
    exact ⟨t, rfl, (Option.some.inj h).symm⟩
theorem alike_tups {K : PySem.W.Frag} {H : Hp} {ts us : List Addr} {rs : List (List Int)} (h1 : TupsAt K H ts rs) (h2 : TupsAt K H us rs) (hz : ∀ r ∈ rs, r.length ≤ 1000) {i : Nat} {u v : V} (z1 : (ts.map V.ref)[i]? = some u) (z2 : (us.map V.ref)[i]? = some v) : Alike K H 1 u v := by
  obtain ⟨t, e1, rfl⟩ := tups_at z1
  obtain ⟨t', e2, rfl⟩ := tups_at z2
  have hi : i < rs.length := by
    rw [← h1.1]
    exact (List.getElem?_eq_some_iff.mp e1).1
  have e3 := List.getElem?_eq_getElem hi
  exact alike_ints (h1.2 i t _ e1 e3) (h2.2 i t' _ e2 e3) (hz _ (List.getElem_mem hi))
/-- the list of ints at p against a written one -/
theorem eqv_ints : ∀ (xs ys : List Int), PyData.eqvAll (xs.map PyData.int) (ys.map PyData.int) = decide (xs = ys)
  | [], [] => rfl
  | [], _ :: _ => rfl
  | _ :: _, [] => rfl
  | x :: xs, y :: ys => by
    show ((x == y) && PyData.eqvAll (xs.map PyData.int) (ys.map PyData.int)) = decide (x :: xs = y :: ys)
    rw [eqv_ints xs ys]
    exact Bool.eq_iff_iff.mpr (by simp)
theorem dpAll_ints {K : PySem.W.Frag} {H : Hp} : ∀ xs : List Int, DpAll K H (xs.map V.int) (xs.map PyData.int)
  | [] => .nil
  | x :: xs => .cons (.int x) (dpAll_ints xs)
theorem dp_lst {K : PySem.W.Frag} {H : Hp} {p : Addr} {xs : List Int} (h : SqL K H p (xs.map V.int)) : Dp K H (.ref p) (.list (xs.map PyData.int)) := .lst h (dpAll_ints xs)
theorem depth_all : ∀ xs : List Int, PyData.depthAll (xs.map PyData.int) = 0 ∧ PyData.canLayAll0 (xs.map PyData.int) = true
  | [] => ⟨rfl, rfl⟩
  | x :: xs => by
    obtain ⟨h1, h2⟩ := depth_all xs
    refine ⟨?_, ?_⟩
    · show max (PyData.depth (.int x)) (PyData.depthAll (xs.map PyData.int)) = 0
      rw [h1]
      rfl
    · show (PyData.canLay0 (.int x) && PyData.canLayAll0 (xs.map PyData.int)) = true
      rw [h2]
      rfl
theorem shaped_lst (xs : List Int) : SeqAt.shaped (.list (xs.map PyData.int)) = true := by
  obtain ⟨h1, h2⟩ := depth_all xs
  show (PyData.canLayAll0 (xs.map PyData.int) && decide (PyData.depthAll (xs.map PyData.int) + 1 ≤ 64)) = true
  rw [h1, h2]
  rfl
theorem shaped_tup (xs : List Int) : SeqAt.shaped (.tuple (xs.map PyData.int)) = true := shaped_lst xs
/-! ### range(a, b) walked where an exception is held -/
theorem pi_range2H {X : Cx} {tg a b : Expr} {ta : TA} {p pos : Pos} (hg : Gl X "range") (hm : X.mg "range" = none) (ha : PA X [a, b] ta)
    (hs : starEach [a, b] X.env = [(false, eval a X.env), (false, eval b X.env)] := by rfl) (hs2 : starEach [b] X.env = [(false, eval b X.env)] := by rfl) :
    L2H.PIH X tg (.Call (.Name "range" p) [a, b] [] pos) (iRng2 ta) := by
  refine ⟨fun pins s σ H R I h => Call_ (ld_blt I hg hm boot_range (PyProof.Rows.callWith_type1 (thn (ha.run pos pins s σ H _ I h) fun us s1 ⟨vs, H1, J, r1, z⟩ => ?_) (by rw [hs, hs2]) (by rw [hs2]; rfl)))⟩
  obtain ⟨i, j, rfl, ⟨z1, z2, z3, z4⟩, q⟩ := z
  obtain ⟨u1, u2, rfl, ⟨t1, rfl⟩, ⟨t2, rfl⟩⟩ := vals2 r1
  exact call_range_2 (L2H.range_itH J z1 z2 z3 z4 q)
/-! ### within an except suite -/
theorem hot_suite {X : Cx} {a : Addr} {oe : Obj} {cls : Value} {d : Option Addr} {pn : List (Addr × Obj)} (hz : L2N.Zn cls d oe) (hf : ∃ vs, oe.data = .fields vs) : L2H.Hot1 (X.suite a pn).A (a, oe) := by
  obtain ⟨vs, e⟩ := hf
  exact ⟨rfl, vs, e, hz.2.2 vs e⟩
theorem roomS {X : Cx} {k : Nat} {a : Addr} {pn : List (Addr × Obj)} (r : Room k X.A) : L2H.RoomH k (X.suite a pn).A := ⟨r.dp, r.un⟩
theorem passE0 {X : Cx} {σ : L2.St} {E : XK} : PassesAt CX0 X σ E := fun _ _ _ _ _ _ h => h.elim
end HL


namespace HL
open PySem PySem.Spec PyProof.Rows L2
/-- xs[i] as the left side of xs[i] += e reads it -/
theorem get_list {X : Cx} : PGet X (rIxL X.K) := by
  intro pins s σ H o i ov iv Q I ro ri h
  obtain ⟨p, xs, i, z, rfl, rfl, hq, he, q⟩ := h
  cases ro
  obtain ⟨t, rfl⟩ := ri
  obtain ⟨its, r, pl, hz⟩ := I.list hq
  obtain ⟨j, h1, h2, h3, h4, h5⟩ := atI_get he
  obtain ⟨w, ew, rw'⟩ := r.get h2
  have hl := r.length
  have hn := line63
  have fin : EP X pins σ Q w s := ⟨z, H, I, rw', q⟩
  by_cases h0 : 0 ≤ i
  · have hj : i.toNat = j := by
      rw [seqIndex_of h0 h5] at h1
      exact Option.some.inj h1
    exact wpAny_getItem_list pl.isList h0 (by omega) (by rw [hj]; simpa using ew) fin
  · have hj : (i + (its.toArray.size : Int)).toNat = j := by
      rw [seqIndex_neg (by omega) h4] at h1
      rw [List.size_toArray, ← hl]
      exact Option.some.inj h1
    exact wpAny_getItem_list_neg pl.isList (by omega) (by rw [List.size_toArray] <;> omega) (by omega) (by rw [hj]; simpa using ew) fin
end HL
namespace HR
open PySem PySem.Spec PyProof.Rows L2 HL
/-! ### orders as lists of ints -/
def ordV (ks : List Nat) : List V := ks.map fun k : Nat => V.int (k : Int)
theorem ordV_len (ks : List Nat) : (ordV ks).length = ks.length := List.length_map ..
theorem ordV_snoc (ks : List Nat) (k : Nat) : ordV (ks ++ [k]) = ordV ks ++ [V.int (k : Int)] := by
  unfold ordV
  rw [List.map_append]
  rfl
theorem ordV_ints (ks : List Nat) : ordV ks = (ks.map fun k : Nat => (k : Int)).map V.int := by
  unfold ordV
  rw [List.map_map]
  rfl
theorem ordV_at {ks : List Nat} {z : Int} {k : Nat} (e : z = (k : Int)) (h : k < ks.length) : atI (ordV ks) z = some (.int (ks.getD k 0 : Nat)) := by
  refine at_of e ?_
  unfold ordV
  rw [List.getElem?_map, List.getElem?_eq_getElem h, List.getD_eq_getElem?_getD, List.getElem?_eq_getElem h]
  rfl
theorem ordV_get {ks : List Nat} {i : Nat} {v : V} (h : (ordV ks)[i]? = some v) : ∃ k, ks[i]? = some k ∧ v = .int (k : Int) := by
  unfold ordV at h
  rw [List.getElem?_map] at h
  cases e : ks[i]? with
  | none =>
    rw [e] at h
    cases h
  | some k =>
    rw [e] at h
    exact ⟨k, rfl, (Option.some.inj h).symm⟩
theorem ints_get {zs : List Int} {i : Nat} {v : V} (h : (zs.map V.int)[i]? = some v) : ∃ z, zs[i]? = some z ∧ v = .int z := by
  rw [List.getElem?_map] at h
  cases e : zs[i]? with
  | none =>
    rw [e] at h
    cases h
  | some k =>
    rw [e] at h
    exact ⟨k, rfl, (Option.some.inj h).symm⟩
def ableV (r : List Int) : List V := ordV (able r)
theorem ableV_len (r : List Int) : (ableV r).length = (able r).length := ordV_len _
def ableTo (r : List Int) (i : Nat) : List V := ((List.range i).filter (may r)).map fun k : Nat => V.int (k : Int)
theorem ableTo_len (r : List Int) (i : Nat) : (ableTo r i).length ≤ i := by
  unfold ableTo
  rw [List.length_map]
  exact Nat.le_trans (List.length_filter_le _ _) (by rw [List.length_range]; exact Nat.le_refl i)
theorem able_le (r : List Int) : (able r).length ≤ r.length := by
  have := ableTo_len r r.length
  unfold ableTo at this
  rw [List.length_map] at this
  exact this
theorem ableTo_yes {r : List Int} {i : Nat} (h : may r i = true) : ableTo r (i + 1) = ableTo r i ++ [V.int (i : Int)] := by
  unfold ableTo
  rw [range_fil_yes h, List.map_append]
  rfl
theorem ableTo_no {r : List Int} {i : Nat} (h : may r i = false) : ableTo r (i + 1) = ableTo r i := by
  unfold ableTo
  rw [range_fil_no h]
theorem inV_able (r : List Int) (k : Nat) : inV (.int (k : Int)) (ableV r) = decide (k ∈ able r) := by
  unfold inV ableV ordV
  rw [List.any_map]
  refine Bool.eq_iff_iff.mpr ?_
  rw [List.any_eq_true, decide_eq_true_iff]
  constructor
  · rintro ⟨j, hj, e⟩
    have e2 : ((j : Int) == (k : Int)) = true := e
    have e3 : j = k := by
      have := eq_of_beq e2
      omega
    rw [← e3]
    exact hj
  · intro h
    refine ⟨k, h, ?_⟩
    show ((k : Int) == (k : Int)) = true
    simp
theorem flat_able (r : List Int) : (ableV r).all flatV = true := by
  rw [List.all_eq_true]
  intro v hv
  unfold ableV ordV at hv
  obtain ⟨k, _, rfl⟩ := List.mem_map.mp hv
  rfl
theorem dec_int2 (i j : Int) : decide (V.int i = V.int j) = decide (i = j) := Bool.eq_iff_iff.mpr (by simp)
theorem dec_nat (i j : Nat) : decide (V.int (i : Int) = V.int (j : Int)) = decide (i = j) := by
  rw [dec_int2]
  exact Bool.eq_iff_iff.mpr (by simp; omega)
/-! ### an order drawn by numbers -/
/-- the place among n, by the numbers zs, at the step i -/
def place (zs : List Int) (i n : Nat) : Nat := if zs = [] then 0 else (zs.getD (i % zs.length) 0 % (n : Int)).toNat
theorem place_lt (zs : List Int) (i : Nat) {n : Nat} (h : 0 < n) : place zs i n < n := by
  unfold place
  split
  · exact h
  · have a := Int.emod_nonneg (zs.getD (i % zs.length) 0) (b := (n : Int)) (by omega)
    have b := Int.emod_lt_of_pos (zs.getD (i % zs.length) 0) (b := (n : Int)) (by omega)
    omega
/-- the one of ks that steps -/
def choose (zs : List Int) (i : Nat) (ks : List Nat) : Nat := ks.getD (place zs i ks.length) 0
theorem choose_mem {zs : List Int} {i : Nat} {ks : List Nat} (h : 0 < ks.length) : choose zs i ks ∈ ks := by
  have z := place_lt zs i h
  unfold choose
  rw [List.getD_eq_getElem?_getD, List.getElem?_eq_getElem z]
  exact List.getElem_mem z
/-- the first n machines that step -/
def draw (m : Int) (zs : List Int) (r : List Int) : Nat → List Nat
  | 0 => []
  | n + 1 => draw m zs r n ++ [choose zs n (able (run m r (draw m zs r n)))]
theorem draw_len (m : Int) (zs r : List Int) : ∀ n, (draw m zs r n).length = n
  | 0 => rfl
  | n + 1 => by
    show (draw m zs r n ++ _).length = n + 1
    rw [List.length_append, draw_len m zs r n]
    rfl
theorem draw_succ (m : Int) (zs r : List Int) (n : Nat) : draw m zs r (n + 1) = draw m zs r n ++ [choose zs n (able (run m r (draw m zs r n)))] := rfl
theorem choose_able {n : Nat} {m : Int} {r : List Int} (g : Good n m r) (zs : List Int) (i : Nat) : choose zs i (able r) ∈ able r := by
  have := g.len
  have := g.n2
  exact choose_mem (able_pos (by omega))
theorem draw_legal {n : Nat} {m : Int} {r : List Int} (g : Good n m r) (zs : List Int) : ∀ i, legal m r (draw m zs r i)
  | 0 => trivial
  | i + 1 => legal_snoc.mpr ⟨draw_legal g zs i, choose_able g.run zs i⟩
theorem draw_take (m : Int) (zs r : List Int) (i : Nat) : ∀ d, ∃ ks, draw m zs r (i + d) = draw m zs r i ++ ks ∧ ks.length = d
  | 0 => ⟨[], by rw [List.append_nil]; rfl, rfl⟩
  | d + 1 => by
    obtain ⟨ks, e, l⟩ := draw_take m zs r i d
    refine ⟨ks ++ [choose zs (i + d) (able (run m r (draw m zs r (i + d))))], ?_, by rw [List.length_append, l]; rfl⟩
    show draw m zs r (i + d) ++ _ = _
    rw [← List.append_assoc, ← e]
    rfl
/-- the first healed ring of a drawn order is one alone -/
theorem draw_one {m : Int} {zs r : List Int} {i j : Nat} (si : sick m r (draw m zs r i)) (sj : sick m r (draw m zs r j)) (hi : (able (run m r (draw m zs r i))).length = 1) (hj : (able (run m r (draw m zs r j))).length = 1) : i = j := by
  have half : ∀ {i j : Nat}, (able (run m r (draw m zs r i))).length = 1 → sick m r (draw m zs r j) → j ≤ i := fun {i j} hi sj => by
    by_cases c : j ≤ i
    · exact c
    · obtain ⟨ks, e, l⟩ := draw_take m zs r i (j - i)
      rw [show i + (j - i) = j by omega] at e
      rw [e] at sj
      have s2 := (sick_append.mp sj).2
      cases ks with
      | nil =>
        have : (0 : Nat) = j - i := l
        omega
      | cons k ks => exact absurd hi s2.1
  have a := half hi sj
  have b := half hj si
  omega
/-! ### what is never refused -/
theorem Good.no {n : Nat} {m : Int} {r : List Int} (g : Good n m r) {P : Nat → Prop} : ∀ j, refuse r m = some j → P j := fun j hj => nomatch ((good_refuse g).symm.trans hj)
theorem at_no {r : List Int} {k : Nat} (h : k ∈ able r) : refuseAt r (k : Int) = none := by
  obtain ⟨h1, h2⟩ := mem_able.mp h
  unfold refuseAt
  rw [if_neg (by omega)]
  have t : ((k : Int)).toNat = k := rfl
  rw [t, if_pos h2]
theorem at_go {r : List Int} {k : Nat} (h : k ∈ able r) {P : Nat → Prop} : ∀ j, refuseAt r (k : Int) = some j → P j := fun j hj => nomatch ((at_no h).symm.trans hj)
theorem alike_ord {K : PySem.W.Frag} {H : Hp} (ks : List Nat) (i : Nat) (u v : V) (h1 : (ordV ks)[i]? = some u) (h2 : (ordV ks)[i]? = some v) : Alike K H 0 u v := by
  have e : u = v := Option.some.inj (h1.symm.trans h2)
  subst e
  obtain ⟨k, _, rfl⟩ := ordV_get h1
  exact ⟨k, rfl, rfl⟩
theorem alike_int0 {K : PySem.W.Frag} {H : Hp} (zs : List Int) (i : Nat) (u v : V) (h1 : (zs.map V.int)[i]? = some u) (h2 : (zs.map V.int)[i]? = some v) : Alike K H 0 u v := by
  have e : u = v := Option.some.inj (h1.symm.trans h2)
  subst e
  obtain ⟨k, _, rfl⟩ := ints_get h1
  exact ⟨k, rfl, rfl⟩
/-! ### in turn -/
def turnL (n f i : Nat) : List Nat := (List.range i).map fun j => (f + j) % n
theorem turnL_len (n f i : Nat) : (turnL n f i).length = i := by unfold turnL; rw [List.length_map, List.length_range]
theorem turnL_succ (n f i : Nat) : turnL n f (i + 1) = turnL n f i ++ [(f + i) % n] := by
  unfold turnL
  rw [range_map_succ]
theorem succ_mod {n x : Nat} (n2 : 2 ≤ n) : succ n (x % n) = (x + 1) % n := by
  have lt := Nat.mod_lt x (show n > 0 by omega)
  unfold succ
  rw [Nat.add_mod, Nat.mod_eq_of_lt (show 1 < n by omega)]
  split
  · rename_i h
    rw [h, Nat.mod_self]
  · exact (Nat.mod_eq_of_lt (by omega)).symm
theorem turn_run {n : Nat} {m : Int} {r : List Int} {f : Nat} (g : Good n m r) (h : able r = [f]) : ∀ i, able (run m r (turnL n f i)) = [(f + i) % n]
  | 0 => by
    have lt := able_lt (r := r) (k := f) (by rw [h]; exact List.mem_cons_self)
    rw [g.len] at lt
    show able r = _
    rw [h, Nat.add_zero, Nat.mod_eq_of_lt lt]
  | i + 1 => by
    rw [turnL_succ, run_snoc, turn_next g.run (turn_run g h i), succ_mod g.n2]
    rfl
theorem turn_legal {n : Nat} {m : Int} {r : List Int} {f : Nat} (g : Good n m r) (h : able r = [f]) : ∀ i, legal m r (turnL n f i)
  | 0 => trivial
  | i + 1 => by
    rw [turnL_succ]
    exact legal_snoc.mpr ⟨turn_legal g h i, by rw [turn_run g h i]; exact List.mem_cons_self⟩
theorem one_of_len {r : List Int} (h : (able r).length = 1) : able r = [(able r).getD 0 0] := by
  match e : able r, h with
  | [x], _ => rfl
theorem turnL_take (n f a b : Nat) : (turnL n f (a + b)).take a = turnL n f a := by
  unfold turnL
  rw [← List.map_take, List.take_range]
  congr 2
  omega
theorem turnL_add (n f a : Nat) : ∀ b, turnL n f (a + b) = turnL n f a ++ turnL n (f + a) b
  | 0 => by show turnL n f a = turnL n f a ++ []; rw [List.append_nil]
  | b + 1 => by
    rw [show a + (b + 1) = a + b + 1 by omega, turnL_succ, turnL_add n f a b, turnL_succ, List.append_assoc, show f + (a + b) = f + a + b by omega]
theorem turnL_round (n f i : Nat) : turnL n (f + n) i = turnL n f i := by
  unfold turnL
  refine List.map_congr_left fun j _ => ?_
  rw [show f + n + j = f + j + n by omega, Nat.add_mod_right]
theorem turnL_drop (n f a b : Nat) : (turnL n f (a + b)).drop a = turnL n (f + a) b := by
  rw [turnL_add]
  have := turnL_len n f a
  rw [List.drop_append, List.drop_of_length_le (by omega), this, Nat.sub_self]
  rfl
/-! ### how long till it is healed -/
theorem draw_short {n : Nat} {m : Int} {r zs : List Int} (g : Good n m r) (hm : (n : Int) ≤ m) {i : Nat} (s : sick m r (draw m zs r i)) : 2 * i ≤ 396 := by
  have := most_le g hm (draw_legal g zs i) s
  rw [draw_len] at this
  have n12 := g.n12
  have n2 := g.n2
  have e : 3 * n * (n - 1) ≤ 3 * 12 * 11 := Nat.mul_le_mul (by omega) (by omega)
  omega
theorem draw_sick {m : Int} {r zs : List Int} (i : Nat) (s : sick m r (draw m zs r i)) (h : (able (run m r (draw m zs r i))).length ≠ 1) : sick m r (draw m zs r (i + 1)) := by
  rw [draw_succ]
  exact sick_snoc.mpr ⟨s, h⟩
end HR


namespace HL
open PySem PySem.Spec PyProof.Rows L2
theorem mt_lcountK {X : Cx} {K : PySem.W.Frag} (h : X.K = K) : MtR X "list.count" (rCntI K) := h ▸ mt_lcount
/-- e.m(..) within a comprehension: the reading speaks of the written part alone -/
theorem pe_bmK {X : Cx} {K : PySem.W.Frag} {o e : Expr} {es : List Expr} {to : TE} {t : TA} {name : Str} {apos cpos : Pos} {T id : String} {r : V → List V → Hp → VK → Prop} (pa : PlainAttrs T) (slot : Slot T name id) (hty : typeOf (.builtin id) = pure (.type "method_descriptor")) (hm : MtR X id r) (ho : PE X o to) (ha : PA X (e :: es) t)
    (hK : X.K = K := by rfl) (hbase : attributeBase o name X.env (eval o X.env) = eval o X.env := by rfl)
    (hfew : ((backTo cpos (starEach (e :: es) X.env)).all (fun x => !x.1) && (backToKw cpos (keywordEach [] X.env)).all (fun x => x.1.isSome)
      && decide ((e :: es).length + ([] : List Keyword).length + (if ([] : List Keyword).isEmpty then 0 else 1) < 30)) = true := by rfl)
    (hline : (apos.endLine == cpos.line) = true := by rfl) (hs : starEach (e :: es) X.env = (false, eval e X.env) :: starEach es X.env := by rfl) (hplain : (backTo cpos (starEach es X.env)).any (·.1) = false := by rfl) :
    PE X (.Call (.Attribute o name apos) (e :: es) [] cpos) (tBM K T r to t) := hK ▸ pe_bm pa slot hty hm ho ha hbase hfew hline hs hplain
end HL


namespace HR
open PySem PySem.Spec PyProof.Rows L2 HL
theorem TupsAt.set {K : PySem.W.Frag} {H : Hp} {ts : List Addr} {rs : List (List Int)} {t : Addr} {r : List Int} (h : TupsAt K H ts rs) (k : Nat) (ht : SqT K H t (r.map V.int)) : TupsAt K H (ts.set k t) (rs.set k r) := by
  refine ⟨by rw [List.length_set, List.length_set, h.1], fun i t' r' a b => ?_⟩
  rw [List.getElem?_set] at a b
  by_cases e : k = i
  · rw [if_pos e] at a b
    split at a
    · split at b
      · have e1 := Option.some.inj a
        have e2 := Option.some.inj b
        subst e1 e2
        exact ht
      · cases b
    · cases a
  · rw [if_neg e] at a b
    exact h.2 i t' r' a b
/-- numbers and marks, by pairs -/
def pairsOf (r s : List Int) : List (List Int) := (List.range r.length).map fun i => [r.getD i 0, s.getD i 0]
theorem pairsOf_len (r s : List Int) : (pairsOf r s).length = r.length := by unfold pairsOf; rw [List.length_map, List.length_range]
theorem pairsOf_at {r : List Int} (s : List Int) {i : Nat} (h : i < r.length) : (pairsOf r s)[i]? = some [r.getD i 0, s.getD i 0] := by
  unfold pairsOf
  rw [List.getElem?_map, List.getElem?_range h]
  rfl
theorem getD_set_self {r : List Int} {k : Nat} (h : k < r.length) (x : Int) : (r.set k x).getD k 0 = x := by
  rw [List.getD_eq_getElem?_getD, List.getElem?_set_self h]
  rfl
theorem getD_set_ne {r : List Int} {k i : Nat} (h : k ≠ i) (x : Int) : (r.set k x).getD i 0 = r.getD i 0 := by
  rw [List.getD_eq_getElem?_getD, List.getD_eq_getElem?_getD, List.getElem?_set_ne h]
theorem pairsOf_set {r s : List Int} {k : Nat} (x y : Int) (h : k < r.length) (hs : s.length = r.length) : pairsOf (r.set k x) (s.set k y) = (pairsOf r s).set k [x, y] := by
  apply List.ext_getElem?
  intro i
  by_cases hi : i < r.length
  · rw [pairsOf_at _ (by rw [List.length_set]; exact hi), List.getElem?_set, pairsOf_len, pairsOf_at _ hi]
    by_cases e : k = i
    · subst e
      rw [if_pos rfl, if_pos hi, getD_set_self h, getD_set_self (by omega)]
    · rw [if_neg e, getD_set_ne e, getD_set_ne e]
  · rw [List.getElem?_eq_none (by rw [pairsOf_len, List.length_set]; omega), List.getElem?_eq_none (by rw [List.length_set, pairsOf_len]; omega)]
theorem pairsOf_succ (r s : List Int) (i : Nat) : (List.range (i + 1)).map (fun i => [r.getD i 0, s.getD i 0]) = (List.range i).map (fun i => [r.getD i 0, s.getD i 0]) ++ [[r.getD i 0, s.getD i 0]] := range_map_succ _ i
/-- the marks when one more has stepped, and how often machine 0 has -/
def tr1 (n : Nat) (p : List Int × Nat) (z : Int) : List Int × Nat := if z = 0 then (p.1.set 0 ((n : Int) + p.2), p.2 + 1) else (p.1.set z.toNat (p.1.getD (z.toNat - 1) 0), p.2)
def marks0 (n : Nat) : List Int := (List.range n).map fun k : Nat => (k : Int)
def trc (n : Nat) (zs : List Int) : List Int × Nat := zs.foldl (tr1 n) (marks0 n, 0)
theorem trc_snoc (n : Nat) (zs : List Int) (z : Int) : trc n (zs ++ [z]) = tr1 n (trc n zs) z := by
  unfold trc
  rw [List.foldl_append]
  rfl
theorem tr1_len (n : Nat) (p : List Int × Nat) (z : Int) : (tr1 n p z).1.length = p.1.length := by
  unfold tr1
  split
  · exact List.length_set
  · exact List.length_set
theorem marks0_len (n : Nat) : (marks0 n).length = n := by unfold marks0; rw [List.length_map, List.length_range]
theorem trc_len (n : Nat) (zs : List Int) : (trc n zs).1.length = n := by
  have : ∀ (zs : List Int) (p : List Int × Nat), (zs.foldl (tr1 n) p).1.length = p.1.length := by
    intro zs
    induction zs with
    | nil => intro p; rfl
    | cons z zs ih => intro p; exact (ih _).trans (tr1_len n p z)
  exact (this zs _).trans (marks0_len n)
theorem tr1_zero (n : Nat) (s : List Int) (c : Nat) : tr1 n (s, c) 0 = (s.set 0 ((n : Int) + c), c + 1) := if_pos rfl
theorem tr1_pos (n : Nat) (s : List Int) (c : Nat) {k : Nat} (h : k ≠ 0) : tr1 n (s, c) (k : Int) = (s.set k (s.getD (k - 1) 0), c) := by
  unfold tr1
  rw [if_neg (by omega)]
  rfl
theorem rgV_marks (n : Nat) : rgV 0 (n : Int) = (marks0 n).map V.int := by
  unfold rgV marks0
  rw [List.map_map, show ((n : Int) - 0).toNat = n by omega]
  refine List.map_congr_left fun k _ => ?_
  show V.int (0 + (k : Int)) = V.int (k : Int)
  rw [Int.zero_add]
/-! ### along the ring what came later stands ahead -/
def age (n v : Int) : Int := if n ≤ v then v else 0 - v
structure Marks (n : Nat) (m : Int) (r x s : List Int) (c : Nat) : Prop where
  sl : s.length = n
  bd : ∀ i, i < n → 0 ≤ s.getD i 0 ∧ s.getD i 0 < (n : Int) + c
  ag : ∀ i, 0 < i → i < n → age n (s.getD i 0) ≤ age n (s.getD (i - 1) 0)
  x0 : x.getD 0 0 = (r.getD 0 0 + (c : Int)) % m
  xs : ∀ i, i < n → x.getD i 0 = if (n : Int) ≤ s.getD i 0 then (r.getD 0 0 + 1 + s.getD i 0 - n) % m else r.getD (s.getD i 0).toNat 0
theorem marks0_at {n i : Nat} (h : i < n) : (marks0 n).getD i 0 = (i : Int) := by
  unfold marks0
  rw [List.getD_eq_getElem?_getD, List.getElem?_map, List.getElem?_range h]
  rfl
theorem marks_start {n : Nat} {m : Int} {r : List Int} (g : Good n m r) : Marks n m r r (marks0 n) 0 := by
  have h0 := g.at (k := 0) (by have := g.n2; omega)
  refine ⟨marks0_len n, fun i hi => ?_, fun i h1 h2 => ?_, ?_, fun i hi => ?_⟩
  · rw [marks0_at hi]
    omega
  · rw [marks0_at h2, marks0_at (by omega)]
    unfold age
    rw [if_neg (by omega), if_neg (by omega)]
    omega
  · simp only [Int.ofNat_zero, Int.natCast_zero, Int.add_zero]
    exact (Int.emod_eq_of_lt h0.1 h0.2).symm
  · rw [marks0_at hi, if_neg (by omega)]
    rfl
theorem marks_step {n : Nat} {m : Int} {r x s : List Int} {c k : Nat} (M : Marks n m r x s c) (n2 : 2 ≤ n) (xl : x.length = n) (hk : k < n) : Marks n m r (step m x k) (tr1 n (s, c) (k : Int)).1 (tr1 n (s, c) (k : Int)).2 := by
  have sl := M.sl
  by_cases k0 : k = 0
  · subst k0
    rw [show ((0 : Nat) : Int) = 0 from rfl, tr1_zero]
    have e0 : (s.set 0 ((n : Int) + c)).getD 0 0 = (n : Int) + c := getD_set_self (by omega) _
    have eI : ∀ i, 0 < i → (s.set 0 ((n : Int) + c)).getD i 0 = s.getD i 0 := fun i h => getD_set_ne (by omega) _
    have nx : (step m x 0).getD 0 0 = (r.getD 0 0 + ((c + 1 : Nat) : Int)) % m := by
      rw [step_self (by omega)]
      unfold nxt
      rw [if_pos rfl, M.x0, Int.emod_add_emod]
      congr 1
      push_cast
      omega
    refine ⟨by rw [List.length_set]; exact sl, fun i hi => ?_, fun i h1 h2 => ?_, nx, fun i hi => ?_⟩
    · show 0 ≤ (s.set 0 ((n : Int) + c)).getD i 0 ∧ (s.set 0 ((n : Int) + c)).getD i 0 < (n : Int) + ((c + 1 : Nat) : Int)
      by_cases i0 : i = 0
      · subst i0
        rw [e0]
        omega
      · rw [eI i (by omega)]
        have := M.bd i hi
        omega
    · show age n ((s.set 0 ((n : Int) + c)).getD i 0) ≤ age n ((s.set 0 ((n : Int) + c)).getD (i - 1) 0)
      rw [eI i h1]
      by_cases i1 : i = 1
      · subst i1
        rw [show 1 - 1 = 0 from rfl, e0]
        have := M.bd 1 h2
        unfold age
        rw [if_pos (show (n : Int) ≤ (n : Int) + c by omega)]
        split <;> omega
      · rw [eI (i - 1) (by omega)]
        exact M.ag i h1 h2
    · show _ = if (n : Int) ≤ (s.set 0 ((n : Int) + c)).getD i 0 then (r.getD 0 0 + 1 + (s.set 0 ((n : Int) + c)).getD i 0 - n) % m else r.getD ((s.set 0 ((n : Int) + c)).getD i 0).toNat 0
      by_cases i0 : i = 0
      · subst i0
        rw [e0, if_pos (by omega), nx]
        congr 1
        push_cast
        omega
      · rw [eI i (by omega), step_ne (by omega)]
        exact M.xs i hi
  · rw [tr1_pos _ _ _ k0]
    have eK : (s.set k (s.getD (k - 1) 0)).getD k 0 = s.getD (k - 1) 0 := getD_set_self (by omega) _
    have eI : ∀ i, k ≠ i → (s.set k (s.getD (k - 1) 0)).getD i 0 = s.getD i 0 := fun i h => getD_set_ne h _
    refine ⟨by rw [List.length_set]; exact sl, fun i hi => ?_, fun i h1 h2 => ?_, by rw [step_ne k0]; exact M.x0, fun i hi => ?_⟩
    · show 0 ≤ (s.set k (s.getD (k - 1) 0)).getD i 0 ∧ (s.set k (s.getD (k - 1) 0)).getD i 0 < (n : Int) + c
      by_cases e : k = i
      · subst e
        rw [eK]
        exact M.bd (k - 1) (by omega)
      · rw [eI i e]
        exact M.bd i hi
    · show age n ((s.set k (s.getD (k - 1) 0)).getD i 0) ≤ age n ((s.set k (s.getD (k - 1) 0)).getD (i - 1) 0)
      by_cases e : k = i
      · subst e
        rw [eK, eI (k - 1) (by omega)]
        exact Int.le_refl _
      · rw [eI i e]
        by_cases e2 : k = i - 1
        · rw [← e2, eK]
          have a1 := M.ag k (by omega) hk
          have a2 := M.ag i h1 h2
          rw [← e2] at a2
          exact Int.le_trans a2 a1
        · rw [eI (i - 1) e2]
          exact M.ag i h1 h2
    · show _ = if (n : Int) ≤ (s.set k (s.getD (k - 1) 0)).getD i 0 then (r.getD 0 0 + 1 + (s.set k (s.getD (k - 1) 0)).getD i 0 - n) % m else r.getD ((s.set k (s.getD (k - 1) 0)).getD i 0).toNat 0
      by_cases e : k = i
      · subst e
        rw [eK, step_self (by omega)]
        unfold nxt
        rw [if_neg k0]
        exact M.xs (k - 1) (by omega)
      · rw [eI i e, step_ne e]
        exact M.xs i hi
def castL (ks : List Nat) : List Int := ks.map fun k : Nat => (k : Int)
theorem castL_snoc (ks : List Nat) (k : Nat) : castL (ks ++ [k]) = castL ks ++ [(k : Int)] := by unfold castL; rw [List.map_append]; rfl
theorem marks_all {n : Nat} {m : Int} {r : List Int} (g : Good n m r) (ks : List Nat) : legal m r ks → Marks n m r (run m r ks) (trc n (castL ks)).1 (trc n (castL ks)).2 := by
  refine snoc_ind (P := fun ks => legal m r ks → Marks n m r (run m r ks) (trc n (castL ks)).1 (trc n (castL ks)).2) ?_ ?_ ks
  · intro _
    exact marks_start g
  · intro ks k ih hl
    obtain ⟨hl, hk⟩ := legal_snoc.mp hl
    have gl : (run m r ks).length = n := run_len.trans g.len
    have lt := able_lt hk
    rw [gl] at lt
    rw [run_snoc, castL_snoc, trc_snoc]
    exact marks_step (ih hl) g.n2 gl lt
theorem refs_at {ts : List Addr} {i : Nat} {t : Addr} {z : Int} (e : z = (i : Int)) (h : ts[i]? = some t) : atI (ts.map V.ref) z = some (.ref t) := by
  refine at_of e ?_
  rw [List.getElem?_map, h]
  rfl
/-- the i-th tuple -/
theorem tups_get {K : PySem.W.Frag} {H : Hp} {ts : List Addr} {rs : List (List Int)} (h : TupsAt K H ts rs) {i : Nat} {r : List Int} (e : rs[i]? = some r) : ∃ t, ts[i]? = some t ∧ SqT K H t (r.map V.int) := by
  have hi : i < ts.length := by
    rw [h.1]
    exact (List.getElem?_eq_some_iff.mp e).1
  exact ⟨_, List.getElem?_eq_getElem hi, h.2 i _ _ (List.getElem?_eq_getElem hi) e⟩
theorem take_getD {x : List Int} {i : Nat} (h : i < x.length) : x.take (i + 1) = x.take i ++ [x.getD i 0] := by
  have e : x[i]? = some (x.getD i 0) := by
    rw [List.getD_eq_getElem?_getD, List.getElem?_eq_getElem h]
    rfl
  exact take_snoc e
def stuckL (x : List Int) (i : Nat) : List Nat := (List.range i).filter fun k => !decide (k ∈ able x)
theorem stuckL_len (x : List Int) (i : Nat) : (stuckL x i).length ≤ i := Nat.le_trans (List.length_filter_le _ _) (by rw [List.length_range]; exact Nat.le_refl i)
theorem stuckL_yes {x : List Int} {i : Nat} (h : ¬ i ∈ able x) : stuckL x (i + 1) = stuckL x i ++ [i] := range_fil_yes (p := fun k => !decide (k ∈ able x)) (by show (!decide (i ∈ able x)) = true; rw [decide_eq_false h]; rfl)
theorem stuckL_no {x : List Int} {i : Nat} (h : i ∈ able x) : stuckL x (i + 1) = stuckL x i := range_fil_no (p := fun k => !decide (k ∈ able x)) (by show (!decide (i ∈ able x)) = false; rw [decide_eq_true h]; rfl)
/-- what one that is stuck, or isn't there, is refused with -/
theorem stuck_ref {x : List Int} {z : Int} (h : z ∈ castL (stuckL x x.length) ++ [(x.length : Int), -1]) : refuseAt x z = some (if 0 ≤ z ∧ z < x.length then 3 else 2) := by
  unfold refuseAt
  rcases List.mem_append.mp h with h | h
  · obtain ⟨k, hk, rfl⟩ := List.mem_map.mp h
    obtain ⟨h1, h2⟩ := List.mem_filter.mp hk
    have h1 := List.mem_range.mp h1
    have nm : ¬ may x k = true := fun e => by
      have : k ∈ able x := mem_able.mpr ⟨h1, e⟩
      rw [decide_eq_true this] at h2
      cases h2
    have tk : ((k : Int)).toNat = k := rfl
    rw [if_neg (by omega), tk, if_neg nm, if_pos (by omega)]
  · rcases List.mem_cons.mp h with e | h
    · subst e
      rw [if_pos (by omega), if_neg (by omega)]
    · have e := List.mem_singleton.mp h
      subst e
      rw [if_pos (by omega), if_neg (by omega)]
end HR


namespace HR
open PySem PySem.Spec PyProof.Rows L2 HL
theorem castL_len (ks : List Nat) : (castL ks).length = ks.length := by unfold castL; exact List.length_map ..
theorem castL_take (ks : List Nat) (i : Nat) : (castL ks).take i = castL (ks.take i) := by unfold castL; rw [List.map_take]
theorem path_get {m : Int} : ∀ {zs r : List Int} {i : Nat}, i ≤ zs.length → (path m r zs)[i]? = some (endOf m r (zs.take i))
  | [], r, 0, _ => rfl
  | z :: zs, r, 0, _ => rfl
  | z :: zs, r, i + 1, h => by
    show (path m (step m r z.toNat) zs)[i]? = some (endOf m (step m r z.toNat) (zs.take i))
    exact path_get (by simpa using h)
theorem legal_take {m : Int} {r : List Int} {ks : List Nat} (h : legal m r ks) (i : Nat) : legal m r (ks.take i) := by
  rw [← List.take_append_drop i ks] at h
  exact (legal_append.mp h).1
theorem end_run {m : Int} {r : List Int} {ks : List Nat} (h : legal m r ks) (i : Nat) : endOf m r ((castL ks).take i) = run m r (ks.take i) := by
  rw [castL_take]
  exact (go_of_legal (legal_take h i)).2
theorem sick_at {m : Int} {r : List Int} {ks : List Nat} (h : sick m r ks) {i : Nat} (hi : i < ks.length) : (able (run m r (ks.take i))).length ≠ 1 := by
  rw [← List.take_append_drop i ks] at h
  have h2 := (sick_append.mp h).2
  cases e : ks.drop i with
  | nil =>
    have := congrArg List.length e
    rw [List.length_drop] at this
    simp at this
    omega
  | cons k l =>
    rw [e] at h2
    exact h2.1
theorem cut_m1 (xs : List V) {n : Nat} (h : xs.length = n + 1) : cutV xs none (some (-1)) = xs.take n := by
  unfold cutV HT.sIx
  rw [List.drop_zero, h]
  congr 1
  show ((if (-1 : Int) < 0 then ((-1 : Int) + ((n + 1 : Nat) : Int)).toNat else min (-1 : Int).toNat (n + 1)) - 0) = n
  rw [if_pos (by decide)]
  omega
theorem draw_turn {n : Nat} {m : Int} {r : List Int} {f : Nat} (g : Good n m r) (h : able r = [f]) (zs : List Int) : ∀ i, draw m zs r i = turnL n f i
  | 0 => rfl
  | i + 1 => by
    rw [draw_succ, draw_turn g h zs i, turn_run g h i, turnL_succ]
    congr 2
    have z := place_lt zs i (n := 1) (by decide)
    unfold choose
    show [(f + i) % n].getD (place zs i 1) 0 = _
    rw [show place zs i 1 = 0 by omega]
    rfl
theorem turnL_low {n : Nat} : ∀ {f i : Nat}, f + i ≤ n → turnL n f i = (List.range i).map fun j => f + j := by
  intro f i h
  unfold turnL
  refine List.map_congr_left fun j hj => ?_
  have := List.mem_range.mp hj
  exact Nat.mod_eq_of_lt (by omega)
theorem turnL_perm {n f : Nat} (h : f < n) : (turnL n f n).Perm (List.range n) := by
  have e1 : turnL n f n = turnL n f (n - f) ++ turnL n (f + (n - f)) f := by
    have := turnL_add n f (n - f) f
    rw [show n - f + f = n by omega] at this
    exact this
  have e2 : turnL n (f + (n - f)) f = List.range f := by
    rw [show f + (n - f) = 0 + n by omega, turnL_round, turnL_low (by omega)]
    have : (fun j : Nat => 0 + j) = id := by funext j; exact Nat.zero_add j
    rw [this, List.map_id]
  rw [e1, e2, turnL_low (by omega)]
  have e3 : List.range n = List.range f ++ (List.range (n - f)).map fun j => f + j := by
    rw [← List.range_add]
    congr 1
    omega
  rw [e3]
  exact List.perm_append_comm
theorem sorted_uniq {n f : Nat} (h : f < n) {ns : List Int} (p : ns.Perm (castL (turnL n f n))) (s : ns.Pairwise (· ≤ ·)) : ns = castL (List.range n) := by
  have p2 : ns.Perm (castL (List.range n)) := p.trans ((turnL_perm h).map _)
  have s2 : (castL (List.range n)).Pairwise (· ≤ ·) := by
    unfold castL
    rw [List.pairwise_map]
    refine List.Pairwise.imp ?_ List.pairwise_lt_range
    intro a b hab
    omega
  exact p2.eq_of_pairwise (fun a b _ _ h1 h2 => Int.le_antisymm h1 h2) s s2
/-- the greater of two, as max tells -/
theorem mx_b {n q : Int} (n2 : 2 ≤ n) (n12 : n ≤ 12) (q2 : 2 ≤ q) (q100 : q ≤ 100) : n ≤ (if q > n then q else n) ∧ 2 ≤ (if q > n then q else n) ∧ (if q > n then q else n) ≤ 100 := by
  split <;> omega
theorem most_two {n : Int} (n2 : 2 ≤ n) (n12 : n ≤ 12) : 2 * (3 * n * (n - 1) / 2) = 3 * n * (n - 1) := by
  have : n = 2 ∨ n = 3 ∨ n = 4 ∨ n = 5 ∨ n = 6 ∨ n = 7 ∨ n = 8 ∨ n = 9 ∨ n = 10 ∨ n = 11 ∨ n = 12 := by omega
  rcases this with e | e | e | e | e | e | e | e | e | e | e <;> subst e <;> rfl
/-- point 10, as the program tells it -/
theorem most_leI {n : Int} {m : Int} {r : List Int} (g : Good n.toNat m r) (hm : ((n.toNat : Nat) : Int) ≤ m) {ks : List Nat} (hl : legal m r ks) (hs : sick m r ks) : 2 * (ks.length : Int) ≤ 3 * n * (n - 1) := by
  have h := most_le g hm hl hs
  have n2 := g.n2
  have n12 := g.n12
  obtain ⟨p, rfl⟩ : ∃ p : Nat, n = (p : Int) := ⟨n.toNat, by omega⟩
  have e : ((p : Int)).toNat = p := rfl
  rw [e] at *
  have h2 : ((2 * ks.length : Nat) : Int) ≤ ((3 * p * (p - 1) : Nat) : Int) := Int.ofNat_le.mpr h
  rw [Int.natCast_mul, Int.natCast_mul, Int.natCast_mul, Int.natCast_sub (by omega)] at h2
  exact h2
theorem mod_one (a N : Nat) : (((a % N : Nat) : Int) + 1) % (N : Int) = (((a + 1) % N : Nat) : Int) := by simp
theorem ks_lt {n : Nat} {m : Int} {r : List Int} (g : Good n m r) {ks : List Nat} (h : legal m r ks) : ∀ k ∈ ks, k < n := fun k hk => by
  have := legal_lt h k hk
  rw [g.len] at this
  exact this
end HR


namespace HL
open PySem PySem.Spec PyProof.Rows L2
/-! ### max, min of a tuple of ints -/
section
variable {prog : Program} {w : World} {A : Around} {E : Value → Shared → Prop} {s : Shared} {l : Addr} {xs : Array (Int × Tok)} {its : List Value} {ns : List Int}
theorem kept_iter {h' : Heap} {o0 : Obj} (hk : ∀ b o, b ∉ [s.heap.objs.size] → (s.heap.push o0).get? b = some o → h'.get? b = some o) :
    ∀ b o, s.heap.get? b = some o → h'.get? b = some o := fun b o e => by
  refine hk b o (fun hm => ?_) (Heap.get?_push_of_some _ e)
  rcases List.mem_cons.mp hm with e1 | hm
  · exact absurd (e1 ▸ Heap.lt_size e) (Nat.lt_irrefl _)
  · cases hm
theorem max_intTup {Q : Value → Shared → Prop} (hh : A.handled = none) (hl : s.heap.IsTuple l (intItems xs)) (hne : 0 < xs.size)
    (h : ∀ v h' tk, (intItems xs)[argBest (fun i j => decide (numAt xs i > numAt xs j)) (xs.size - 1)]? = some v → (∀ b o, s.heap.get? b = some o → h'.get? b = some o) → Q v { s with heap := h', toks := tk }) :
    wpAny (model prog w) A (call (.builtin "max") [.ref l]) Q E s := by
  have hlt : l < s.heap.objs.size := by obtain ⟨_, e, _⟩ := hl; exact Heap.lt_size e
  refine call_max_walk (wpAny_pyIter_tuple hl ?_)
  refine ⟨_, [_, l], [_], _, _, _, _, rfl, Walks.tuple (A := A.in1) hh _ l (Nat.ne_of_lt hlt) (intItems xs), ⟨⟨_, Heap.get?_push_size _ rfl, rfl, rfl⟩, hl.push _⟩, fun b hb => ?_, by simpa [intItems] using hne, CmpOf.ints_gt (numAt xs) (fun _ _ => intItems_at), fun v h' tk hP hk => ?_⟩
  · show b < (s.heap.push _).objs.size
    rw [Heap.size_push]
    rcases List.mem_cons.mp hb with rfl | hb
    · exact Nat.lt_succ_self _
    · rcases List.mem_cons.mp hb with rfl | hb
      · exact Nat.lt_succ_of_lt hlt
      · cases hb
  · exact h v h' tk (by simpa [intItems] using hP) (kept_iter hk)
theorem min_intTup {Q : Value → Shared → Prop} (hh : A.handled = none) (hl : s.heap.IsTuple l (intItems xs)) (hne : 0 < xs.size)
    (h : ∀ v h' tk, (intItems xs)[argBest (fun i j => decide (numAt xs i < numAt xs j)) (xs.size - 1)]? = some v → (∀ b o, s.heap.get? b = some o → h'.get? b = some o) → Q v { s with heap := h', toks := tk }) :
    wpAny (model prog w) A (call (.builtin "min") [.ref l]) Q E s := by
  have hlt : l < s.heap.objs.size := by obtain ⟨_, e, _⟩ := hl; exact Heap.lt_size e
  refine call_min_walk (wpAny_pyIter_tuple hl ?_)
  refine ⟨_, [_, l], [_], _, _, _, _, rfl, Walks.tuple (A := A.in1) hh _ l (Nat.ne_of_lt hlt) (intItems xs), ⟨⟨_, Heap.get?_push_size _ rfl, rfl, rfl⟩, hl.push _⟩, fun b hb => ?_, by simpa [intItems] using hne, CmpOf.ints_lt (numAt xs) (fun _ _ => intItems_at), fun v h' tk hP hk => ?_⟩
  · show b < (s.heap.push _).objs.size
    rw [Heap.size_push]
    rcases List.mem_cons.mp hb with rfl | hb
    · exact Nat.lt_succ_self _
    · rcases List.mem_cons.mp hb with rfl | hb
      · exact Nat.lt_succ_of_lt hlt
      · cases hb
  · exact h v h' tk (by simpa [intItems] using hP) (kept_iter hk)
theorem max_rawT {Q : Value → Shared → Prop} (hh : A.handled = none) (hl : s.heap.IsTuple l its.toArray) (hi : IntsAre its ns) (hne : 0 < ns.length)
    (h : ∀ h' tk M t', (∀ b o, s.heap.get? b = some o → h'.get? b = some o) → M ∈ ns → (∀ a, a ∈ ns → a ≤ M) → Q (.int M t') { s with heap := h', toks := tk }) : wpAny (model prog w) A (call (.builtin "max") [.ref l]) Q E s := by
  obtain ⟨xs, e⟩ := hi.allInts.items
  have hn : numsOf (intItems xs).toList = ns := by rw [← e]; exact hi.numsOf
  rw [nums_intItems] at hn
  subst hn
  rw [e] at hl
  have hsz : 0 < xs.size := by simpa using hne
  refine max_intTup hh hl hsz fun v h' tk hv hk => ?_
  obtain ⟨t, rfl⟩ := intItems_at hv
  obtain ⟨h1, h2⟩ := argBest_gt (numAt xs) (xs.size - 1)
  refine h h' tk _ t hk ?_ fun a ha => ?_
  · rw [numAt_eq]; exact PySem.getD_mem (by rw [List.length_map, Array.length_toList]; omega)
  · obtain ⟨j, hj, rfl⟩ := PySem.mem_getD ha
    rw [List.length_map, Array.length_toList] at hj
    rw [← numAt_eq]; exact h2 j (by omega)
theorem min_rawT {Q : Value → Shared → Prop} (hh : A.handled = none) (hl : s.heap.IsTuple l its.toArray) (hi : IntsAre its ns) (hne : 0 < ns.length)
    (h : ∀ h' tk M t', (∀ b o, s.heap.get? b = some o → h'.get? b = some o) → M ∈ ns → (∀ a, a ∈ ns → M ≤ a) → Q (.int M t') { s with heap := h', toks := tk }) : wpAny (model prog w) A (call (.builtin "min") [.ref l]) Q E s := by
  obtain ⟨xs, e⟩ := hi.allInts.items
  have hn : numsOf (intItems xs).toList = ns := by rw [← e]; exact hi.numsOf
  rw [nums_intItems] at hn
  subst hn
  rw [e] at hl
  have hsz : 0 < xs.size := by simpa using hne
  refine min_intTup hh hl hsz fun v h' tk hv hk => ?_
  obtain ⟨t, rfl⟩ := intItems_at hv
  obtain ⟨h1, h2⟩ := argBest_lt (numAt xs) (xs.size - 1)
  refine h h' tk _ t hk ?_ fun a ha => ?_
  · rw [numAt_eq]; exact PySem.getD_mem (by rw [List.length_map, Array.length_toList]; omega)
  · obtain ⟨j, hj, rfl⟩ := PySem.mem_getD ha
    rw [List.length_map, Array.length_toList] at hj
    rw [← numAt_eq]; exact h2 j (by omega)
end
section
variable {X : Cx}
def rMaxT (K : PySem.W.Frag) : List V → Hp → VK → Prop := fun vs H Q => ∃ (a : Addr) (ns : List Int), vs = [V.ref a] ∧ SqT K H a (ns.map V.int) ∧ 0 < ns.length ∧ ∀ m, m ∈ ns → (∀ y, y ∈ ns → y ≤ m) → Q (.int m) H
def rMinT (K : PySem.W.Frag) : List V → Hp → VK → Prop := fun vs H Q => ∃ (a : Addr) (ns : List Int), vs = [V.ref a] ∧ SqT K H a (ns.map V.int) ∧ 0 < ns.length ∧ ∀ m, m ∈ ns → (∀ y, y ∈ ns → m ≤ y) → Q (.int m) H
theorem cr_maxT (hc : X.calm = true) : CallR X (.builtin "max") (rMaxT X.K) := by
  intro pins s σ H vs us Q I r h
  obtain ⟨a, ns, rfl, hs, hne, q⟩ := h
  obtain ⟨its, rv, hl, _⟩ := I.tuple hs
  rw [Vals.ref1 r]
  exact max_rawT (I.ok.hd hc) hl rv.ints hne fun h' tk m t' hk h1 h2 => ⟨.int _, H, I.kept hk, ⟨_, rfl⟩, q m h1 h2⟩
theorem cr_minT (hc : X.calm = true) : CallR X (.builtin "min") (rMinT X.K) := by
  intro pins s σ H vs us Q I r h
  obtain ⟨a, ns, rfl, hs, hne, q⟩ := h
  obtain ⟨its, rv, hl, _⟩ := I.tuple hs
  rw [Vals.ref1 r]
  exact min_rawT (I.ok.hd hc) hl rv.ints hne fun h' tk m t' hk h1 h2 => ⟨.int _, H, I.kept hk, ⟨_, rfl⟩, q m h1 h2⟩
end
end HL


namespace HL
open PySem PySem.Spec PyProof.Rows L2
/-! ### dicts whose keys are tuples: a comprehension -/
/-- the dict at D gets the value v at the tuple that stands at b -/
theorem dictSetT {X : Cx} {pins : List (Addr × Obj)} {σ : L2.St} {H : Hp} {s : Shared} {E : Value → Shared → Prop} {D b : Addr} {kvs : List (List L2.Key × V)} {k : List L2.Key} {v : V} {r : Value} {Q : Unit → Shared → Prop} (hu : X.A.units + 1 < cLine) (I : Inv X pins σ H s)
    (hD : H D = some (.dT kvs)) (hb : H b = some (.tup (k.map kV))) (hz : kvs.length < sizeLine) (rv : RelV v r) (h : ∀ s', Inv X pins σ (upd H D (.dT (putK kvs k v))) s' → Q () s') : wpAny (model X.prog X.w) X.A (dictSet D (.ref b) r) Q E s := by
  obtain ⟨z, hd, xs, rel, dd⟩ := dt_of I.hok hD
  have hlen : xs.length ≤ sizeLine := (Paired.length rel) ▸ z
  have hnew : (putK kvs k v).length ≤ sizeLine := by
    have := length_putK kvs k v
    omega
  refine wpAny_dictSet_heap (hsz := hlen) (Nat.lt_of_succ_lt hu) (key_of I.hok hb) dd fun h' dd' hs => h _ ?_
  obtain ⟨q, es, ep, hq, h2, h3, h4, _, h5⟩ := dd'
  have keep : ∀ c ys, H c = some (.tup ys) → upd H D (.dT (putK kvs k v)) c = some (.tup ys) := fun c ys ec => (upd_ne (ne_of ec hD (fun z => nomatch z))).trans ec
  exact d_write I (by rw [hD]; exact True.intro) hs ⟨q, hq⟩ ⟨hnew, hd, _, (rel.put k hb rv).keeps fun c ys ec => keep c ys ec, q, es, ep, hq, h2, h3, h4, h5⟩
/-- {k: v for target in iter if ..}, the keys tuples that stand by themselves: D the new dict -/
def tDcT (wi : TI) (g : TG) (tt : TT) (tk tv : TE) (vs : List Nat) : TE := fun σ H Q => wi σ H fun J H1 => ∀ D, H1 D = none → ∃ W : Nat → Nat → Hp → Prop, (∃ m, W 0 m (upd H1 D (.dT []))) ∧
  ∀ i m H, W i m H → (J.stop i H ∧ Q (.ref D) H) ∨ (J.go i H ∧ ∃ Nx : Hp → Prop, (∀ H', Nx H' → ∃ m', m' < m ∧ W (i + 1) m' H') ∧
    ∀ x H', J.yld i H x H' → g x (wipe σ vs) H' fun σ2 H2 => wipe σ2 vs = wipe σ vs ∧ tt σ2 H2 fun b H3 =>
      if b = true then tk σ2 H3 fun y H4 => tv σ2 H4 fun z H5 => ∃ (kvs : List (List L2.Key × V)) (k : List L2.Key) (c : Addr), y = .ref c ∧ H5 c = some (.tup (k.map kV)) ∧ H5 D = some (.dT kvs) ∧ kvs.length < sizeLine ∧ Nx (upd H5 D (.dT (putK kvs k z))) else Nx H3)
section
variable {X : Cx}
/-- the block's own places stand free from the block's point of view -/
theorem blk_free {s3 : Shared} {H3 : Hp} {scope : Scope} {ce : Env} {fp : List Addr} {σ' : L2.St} {H' : Hp} {s' : Shared} (I' : Inv (X.blk s3 H3 scope ce fp) [] σ' H' s') (hn : ∀ b ∈ fp, H' b = none) : ∀ b ∈ fp, FpOk (X.blk s3 H3 scope ce fp) [] H' b := fun b hb =>
  ⟨hn b hb, (I'.ok.exf b hb).1, I'.ok.exfs b hb, .inl hb, fun x c e => (I'.ok.exf b hb).2 x c e, fun p hp => (List.not_mem_nil (show p ∈ ([] : List (Addr × Obj)) from by simpa using hp)).elim⟩
theorem dcT_core {pins : List (Addr × Obj)} {s : Shared} {σ : L2.St} {H : Hp} {Q : VK} {kx vx tg iter : Expr} {ifs : List Expr} {scope : Scope} {own : List (Str × Nat)} {pos pos' : Pos} {wi : TI} {g : TG} {tt : TT} {tk tv : TE} {use : Option (Value → Sem Unit)} {Qf : Value → Shared → Prop}
    (hu : X.A.units + 1 < cLine) (calm : X.calm = true) (nodup : X.N.Nodup) (I : Inv X pins σ H s) (pit : PI X tg iter wi) (bok : BlkOk X.N X.env.scope scope own)
    (pg0 : ∀ (s : Shared) (H : Hp) (C : Addr) (cl : List (Str × Addr)) (fp : List Addr), PG (X.blk s H scope (compEnvC scope cl C X.env) fp) tg g)
    (pt0 : ∀ (s : Shared) (H : Hp) (C : Addr) (cl : List (Str × Addr)) (fp : List Addr), PTs (X.blk s H scope (compEnvC scope cl C X.env) fp) ifs tt)
    (pk0 : ∀ (s : Shared) (H : Hp) (C : Addr) (cl : List (Str × Addr)) (fp : List Addr), PE (X.blk s H scope (compEnvC scope cl C X.env) fp) kx tk)
    (pv0 : ∀ (s : Shared) (H : Hp) (C : Addr) (cl : List (Str × Addr)) (fp : List Addr), PE (X.blk s H scope (compEnvC scope cl C X.env) fp) vx tv) (fold : ∀ x, foldedSetIterable iter X.env x = pure x)
    (h : tDcT wi g tt tk tv (own.map (·.2)) σ H Q)
    (last : ∀ D C s' m H', Inv X pins σ H' s' → Q (.ref D) H' → s'.heap.Ns C m → FpOk X pins H' C → compPost (model X.prog X.w) X.A X.xe use Qf (.ref D) C (.ok .next) s') :
    wpAny (model X.prog X.w) X.A (comprehension (.DictComp kx vx [⟨tg, iter, ifs, 0⟩] scope pos) scope X.env pos' newDict false (eval iter X.env) use) Qf X.xe s := by
  have freeN : ∀ y ∈ scope.names, y.2 = .free → ∃ c, X.env.cells.lookup y.1 = some c := fun y hy e => (bok.free y hy e).elim (fun k => I.ok.has _ (.inl k)) fun k => I.ok.has _ (.inr k)
  refine wpAny_comprehension_free (use := use) rfl fold (closure_ok freeN) bok.kind (fun y hy e => by rw [bok.uniq y hy, e]) (thn (pit.run pins s σ H _ I h) fun xv s1 hx => thn hx fun itv s2 ⟨it, fp, tn, J, H2, e, I2, T, st2, f2, q⟩ => ?_)
  subst e
  refine wpAny_newObj_type (newEnv_comp ?_)
  obtain ⟨D, hDef⟩ : ∃ D, s2.heap.objs.size = D := ⟨_, rfl⟩
  have dn : H2 D = none := I2.hok.fresh (Nat.le_of_eq hDef)
  obtain ⟨W, ⟨m0, w0⟩, turn⟩ := q D dn
  obtain ⟨s3, hs3⟩ : ∃ s3 : Shared, ({ s2 with heap := s2.heap.push { cls := .type "dict", data := .dict #[] } } : Shared) = s3 := ⟨_, rfl⟩
  have h3 : s3.heap = s2.heap.push { cls := .type "dict", data := .dict #[] } := by rw [← hs3]
  have I3 : Inv X pins σ (upd H2 D (.dT [])) s3 := by
    rw [← hs3]
    refine I2.laid (t' := s2.toks) (fun b o z => Heap.get?_push_of_some _ z) (Nat.le_of_eq hDef) ?_
    rw [← hDef]
    exact dt_empty s2.heap I2.big
  have below : ∀ b ∈ fp, b < s2.heap.objs.size := fun b hb => by
    obtain ⟨o, z, _⟩ := T.obj _ _ st2 b hb
    exact Heap.lt_size z
  have f3 : ∀ b ∈ fp, FpOk X pins (upd H2 D (.dT [])) b ∧ b < s3.heap.objs.size := fun b hb => by
    have lt := below b hb
    refine ⟨⟨(upd_ne (hDef ▸ Nat.ne_of_lt lt)).trans (f2 b hb).1, (f2 b hb).2⟩, ?_⟩
    rw [h3, Heap.size_push]
    exact Nat.lt_succ_of_lt lt
  have st3 : tn 0 s3.heap := T.keep _ _ _ st2 fun b _ o z => by rw [h3]; exact Heap.get?_push_of_some _ z
  have I4 := block_start I3 bok nodup f3
  obtain ⟨cl, hcl⟩ : ∃ cl, cellsFrom (s3.heap.objs.size + 1) scope.names (cloFrom X.env.cells scope.names []) = cl := ⟨_, rfl⟩
  rw [hcl] at I4
  obtain ⟨H3, hH3⟩ : ∃ H3, upd H2 D (.dT []) = H3 := ⟨_, rfl⟩
  rw [hH3] at I3 I4 w0 f3
  have pg := pg0 s3 H3 s3.heap.objs.size cl fp
  have pt := pt0 s3 H3 s3.heap.objs.size cl fp
  have pk := pk0 s3 H3 s3.heap.objs.size cl fp
  have pv := pv0 s3 H3 s3.heap.objs.size cl fp
  rw [hs3, hDef, hcl]
  show codeAny _ _ (.compStart (.DictComp kx vx [⟨tg, iter, ifs, 0⟩] scope pos) 0 (.ref it) (.ref D) (compEnvC scope cl s3.heap.objs.size X.env)) (compPost (model X.prog X.w) X.A X.xe use Qf (.ref D) s3.heap.objs.size) { s3 with heap := pushCells (s3.heap.push { cls := .type "dict", data := .dict #[] }) scope.names }
  have locs : (compEnvC scope cl s3.heap.objs.size X.env).locals = s3.heap.objs.size := rfl
  obtain ⟨ce, hce⟩ : ∃ ce, compEnvC scope cl s3.heap.objs.size X.env = ce := ⟨_, rfl⟩
  rw [hce] at I4 pg pt pk pv locs ⊢
  generalize hs4 : ({ s3 with heap := pushCells (s3.heap.push { cls := .type "dict", data := .dict #[] }) scope.names } : Shared) = s4 at I4 ⊢
  have st4 : tn 0 s4.heap := T.keep _ _ _ st3 fun b _ o z => by rw [← hs4]; exact pushCells_keeps _ _ _ _ (Heap.get?_push_of_some _ z)
  have none3 : ∀ b ∈ fp, H3 b = none := fun b hb => (f3 b hb).1.1
  refine codeAny_compStart_dict ?_ (T.self X.A 0 _ _ _ st4 ?_)
  all_goals refine compLoop_anyD (fun n s' => ∃ i H', Inv (X.blk s3 H3 scope ce fp) [] (wipe σ (own.map (·.2))) H' s' ∧ tn i s'.heap ∧ (∀ b ∈ fp, H' b = none) ∧ W i n H') ?_ m0 ⟨0, H3, I4, st4, none3, w0⟩
  all_goals
    rintro n s5 ⟨i, H5, I5, st5, n5, w5⟩
    rcases turn i n H5 w5 with ⟨stop, qq⟩ | ⟨go, Nx, hNx, step⟩
    · refine thnF (T.done (X.blk s3 H3 scope ce fp) rfl rfl rfl calm i [] s5 _ H5 (fun _ _ => False) I5 (blk_free I5 n5) st5 stop) fun r s6 ⟨hr, I6⟩ => ?_
      subst hr
      have I7 : Inv X pins σ H5 s6 := I3.call' (ch := fp) I6.os I6.base I6.hok I6.bare fun b hb => ⟨(f3 b hb).1.2.2.2.1, (f3 b hb).1.2.1, (f3 b hb).1.2.2.2.2.1, (f3 b hb).1.2.2.2.2.2⟩
      have nC : H5 s3.heap.objs.size = none := locs ▸ (show H5 ce.locals = none from I6.free)
      obtain ⟨m, hn, _⟩ := I6.loc
      exact last D s3.heap.objs.size s6 m H5 I7 qq (locs ▸ (show s6.heap.Ns ce.locals m from hn)) (I3.fpOk (Nat.le_refl _) nC)
    · refine thnF (T.item (X.blk s3 H3 scope ce fp) rfl rfl rfl calm i [] s5 _ H5 (fun _ _ => False) I5 (blk_free I5 n5) st5 go) fun r s6 ⟨u, hr, h6⟩ => ?_
      subst hr
      refine thnF h6 fun _ s7 ⟨x, H7, I7, r7, y7, st7, n7⟩ => ?_
      have J7 := I7.pinned (blk_free I7 n7) (T.obj _ _ st7)
      refine thnF (pg.run _ s7 _ H7 x u _ J7 r7 (step x H7 y7)) fun _ s8 ⟨σ8, H8, I8, hw8, q8⟩ => ?_
      refine thnF (pt.run _ s8 σ8 H8 _ I8 q8) fun b s9 ⟨H9, I9, q9⟩ => ?_
      have close : ∀ {s' : Shared} {H' : Hp}, Inv (X.blk s3 H3 scope ce fp) ([] ++ pinsAt fp s7.heap) σ8 H' s' → Nx H' → ∃ m, m < n ∧ ∃ i H', Inv (X.blk s3 H3 scope ce fp) [] (wipe σ (own.map (·.2))) H' s' ∧ tn i s'.heap ∧ (∀ b ∈ fp, H' b = none) ∧ W i m H' := fun {s' H'} I' nx => by
        obtain ⟨m', lt, w'⟩ := hNx H' nx
        have pinned : ∀ b ∈ fp, ∀ o, s7.heap.get? b = some o → s'.heap.get? b = some o ∧ H' b = none := fun b hb o z =>
          have p := I'.pin (b, o) (List.mem_append_right _ (List.mem_append_right _ (mem_pinsAt hb z)))
          ⟨p.1, p.2.1⟩
        refine ⟨m', lt, i + 1, H', (I'.unpinned (pins := [])).weak (by rw [← hw8, wipe_length]) (fun j v z => ?_), T.keep _ _ _ st7 fun b hb o z => (pinned b hb o z).1, fun b hb => ?_, w'⟩
        · rw [← hw8] at z
          exact (wipe_some z).1
        · obtain ⟨o, z, _⟩ := T.obj _ _ st7 b hb
          exact (pinned b hb o z).2
      cases b with
      | false => exact close I9 (by simpa using q9)
      | true =>
        simp only [if_true] at q9 ⊢
        refine thnF (pk.run _ s9 σ8 H9 _ I9 q9) fun z s10 ⟨yk, H10, I10, r10, q10⟩ => ?_
        refine thnF (pv.run _ s10 σ8 H10 _ I10 q10) fun z2 s11 ⟨yv, H11, I11, r11, kvs, k, c, ek, hc11, hD11, hz11, nx⟩ => ?_
        subst ek
        cases (show z = Value.ref c from r10)
        exact dictSetT (X := X.blk s3 H3 scope ce fp) hu I11 hD11 hc11 hz11 r11 fun s12 I12 => close I12 nx
theorem pe_dcT {kx vx tg iter : Expr} {ifs : List Expr} {scope : Scope} {own : List (Str × Nat)} {pos : Pos} {wi : TI} {g : TG} {tt : TT} {tk tv : TE} (hu : X.A.units + 1 < cLine) (calm : X.calm = true) (nodup : X.N.Nodup) (pit : PI X tg iter wi) (bok : BlkOk X.N X.env.scope scope own)
    (pg0 : ∀ (s : Shared) (H : Hp) (C : Addr) (cl : List (Str × Addr)) (fp : List Addr), PG (X.blk s H scope (compEnvC scope cl C X.env) fp) tg g)
    (pt0 : ∀ (s : Shared) (H : Hp) (C : Addr) (cl : List (Str × Addr)) (fp : List Addr), PTs (X.blk s H scope (compEnvC scope cl C X.env) fp) ifs tt)
    (pk0 : ∀ (s : Shared) (H : Hp) (C : Addr) (cl : List (Str × Addr)) (fp : List Addr), PE (X.blk s H scope (compEnvC scope cl C X.env) fp) kx tk)
    (pv0 : ∀ (s : Shared) (H : Hp) (C : Addr) (cl : List (Str × Addr)) (fp : List Addr), PE (X.blk s H scope (compEnvC scope cl C X.env) fp) vx tv) (fold : ∀ x, foldedSetIterable iter X.env x = pure x := by intro _; rfl) :
    PE X (.DictComp kx vx [⟨tg, iter, ifs, 0⟩] scope pos) (tDcT wi g tt tk tv (own.map (·.2))) := by
  refine ⟨fun pins s σ H Q I h => ?_⟩
  rw [arm_eval_DictComp]
  refine dcT_core hu calm nodup I pit bok pg0 pt0 pk0 pv0 fold h fun D C s' m H' I' q hn ⟨f0, f1, f2, f3, f4, f5⟩ => ⟨m, hn, fun h'' sb => ?_⟩
  exact ⟨.ref D, H', I'.turned (t' := s'.toks) (fun b o hb z => (sb.2 b hb).trans z) f0 f1 f3 f4 f5, rfl, q⟩
/-- .. over what is walked -/
theorem dcT_it {J : It} {n : Nat} {G : Hp → Prop} {Y : Nat → Hp → V → Hp → Prop} (w : Walk J n G Y) {g : TG} {tt : TT} {tk tv : TE} {vs : List Nat} {σ : L2.St} {H1 : Hp} {D : Addr} {Qd : Hp → Prop} (Pv : Nat → Hp → Prop) (h0 : Pv 0 (upd H1 D (.dT []))) (hG : ∀ i H, i ≤ n → Pv i H → G H)
    (hs : ∀ i x H H', i < n → Pv i H → Y i H x H' → g x (wipe σ vs) H' fun σ2 H2 => wipe σ2 vs = wipe σ vs ∧ tt σ2 H2 fun b H3 =>
      if b = true then tk σ2 H3 fun y H4 => tv σ2 H4 fun z H5 => ∃ (kvs : List (List L2.Key × V)) (k : List L2.Key) (c : Addr), y = .ref c ∧ H5 c = some (.tup (k.map kV)) ∧ H5 D = some (.dT kvs) ∧ kvs.length < sizeLine ∧ Pv (i + 1) (upd H5 D (.dT (putK kvs k z))) else Pv (i + 1) H3) (hd : ∀ H, Pv n H → Qd H) :
    ∃ W : Nat → Nat → Hp → Prop, (∃ m, W 0 m (upd H1 D (.dT []))) ∧ ∀ i m H, W i m H → (J.stop i H ∧ Qd H) ∨ (J.go i H ∧ ∃ Nx : Hp → Prop, (∀ H', Nx H' → ∃ m', m' < m ∧ W (i + 1) m' H') ∧
      ∀ x H', J.yld i H x H' → g x (wipe σ vs) H' fun σ2 H2 => wipe σ2 vs = wipe σ vs ∧ tt σ2 H2 fun b H3 =>
        if b = true then tk σ2 H3 fun y H4 => tv σ2 H4 fun z H5 => ∃ (kvs : List (List L2.Key × V)) (k : List L2.Key) (c : Addr), y = .ref c ∧ H5 c = some (.tup (k.map kV)) ∧ H5 D = some (.dT kvs) ∧ kvs.length < sizeLine ∧ Nx (upd H5 D (.dT (putK kvs k z))) else Nx H3) := by
  refine ⟨fun i m H => m + i = n ∧ Pv i H, ⟨n, rfl, h0⟩, fun i m H ⟨em, p⟩ => ?_⟩
  have hi : i ≤ n := by omega
  have q := hG i H hi p
  by_cases lt : i < n
  · exact .inr ⟨w.goes i H lt q, Pv (i + 1), fun H' p' => ⟨n - (i + 1), by omega, by omega, p'⟩, fun x H' y => hs i x H H' lt p (w.yields i H x H' lt q y)⟩
  · have e : i = n := by omega
    subst e
    exact .inl ⟨w.stops H q, hd H p⟩
/-! ### such a dict's truth, its pop -/
theorem truthyT {prog : Program} {w : World} {K : Type} [DecidableEq K] {knd : HeapKind prog w K} {A : Around} {E : Value → Shared → Prop} {s : Shared} {d : Addr} {xs : List (K × Addr × Value)} {Q : Bool → Shared → Prop} (hd : (d == sysModules) = false) (hm : s.heap.DictOfH knd d xs) (fit : (xs.length : Int) < 2 ^ 63)
    (h : Q (!xs.isEmpty) { s with toks := s.toks + 1 + 1 }) : wpAny (model prog w) A (truthy (.ref d)) Q E s := by
  have ne : ((xs.length : Int) != 0) = !xs.isEmpty := by cases xs <;> simp <;> omega
  have len : wpAny (model prog w) A (runValue (.builtin "len" ⟨[.ref d], []⟩)) (fun r s' => r = .int xs.length (s.toks + 1) ∧ Q (!xs.isEmpty) s') E s := by
    refine wpAny_runValue (codeAny_builtin entry_len ?_)
    rw [Around.under_plainId plain_len _]
    refine wpAny_mono (PySem.wpAny_len_body_dictH (Q := fun r s' => r = .int xs.length (s.toks + 1) ∧ Q (!xs.isEmpty) s') hd hm fit ⟨rfl, h⟩) (fun fin s' z => ?_) fun _ _ e => e
    obtain ⟨r, rfl, hq⟩ := z
    exact hq
  have fin : ∀ (r : Value) (s' : Shared), (r = .int xs.length (s.toks + 1) ∧ Q (!xs.isEmpty) s') → True := fun _ _ _ => trivial
  unfold truthy
  first
    | refine wpAny_bind (wpAny_callSpecial?_none (name := Str.ofString "__bool__") hm.typeIs noBool_dict ?_)
    | refine wpAny_bind (wpAny_pure (wpAny_bind (wpAny_callSpecial?_none (name := Str.ofString "__bool__") hm.typeIs noBool_dict ?_)))
  first
    | refine wpAny_bind (wpAny_specialOf (name := Str.ofString "__len__") hm.typeIs F.slot_dict_len.lookup ?_)
    | refine wpAny_bind (wpAny_pure (wpAny_bind (wpAny_specialOf (name := Str.ofString "__len__") hm.typeIs F.slot_dict_len.lookup ?_)))
  first
    | exact wpAny_bind (wpAny_mono len (fun r s' z => by obtain ⟨rfl, hq⟩ := z; exact wpAny_pure (ne ▸ hq)) fun _ _ e => e)
    | exact wpAny_bind (wpAny_pure (wpAny_bind (wpAny_mono len (fun r s' z => by obtain ⟨rfl, hq⟩ := z; exact wpAny_pure (ne ▸ hq)) fun _ _ e => e)))
theorem pt_truthD {a : Expr} {ta : TE} (ha : PE X a ta) (he : ∀ whole, isTrue a X.env whole = (do let v ← whole; standAt a.pos; holding [v] (truthy v))) :
    PT X a (fun σ H Q => ta σ H fun x H' => ∃ (d : Addr) (kvs : List (List L2.Key × V)), x = .ref d ∧ H' d = some (.dT kvs) ∧ Q (!kvs.isEmpty) H') := by
  refine ⟨fun pins s σ H Q I h => ?_⟩
  refine isTrue_plain (thn (ha.run pins s σ H _ I h) fun v s1 ⟨x, H1, I1, r1, d, kvs, ex, hd, q1⟩ => ?_) (he _)
  subst ex
  cases r1
  obtain ⟨z, nd, xs, rel, dd⟩ := dt_of I1.hok hd
  have lx := Paired.length rel
  have sz := sizeLine_eq
  refine truthyT nd dd (by omega) ?_
  have e : xs.isEmpty = kvs.isEmpty := by cases rel <;> rfl
  rw [e]
  exact ⟨H1, I1.tok _, q1⟩
def rPopT1 : V → List V → Hp → VK → Prop := fun x xs H Q => ∃ (a : Addr) (kvs : List (List L2.Key × V)) (k : List L2.Key) (b : Addr) (v : V), x = .ref a ∧ xs = [.ref b] ∧ H a = some (.dT kvs) ∧ H b = some (.tup (k.map kV)) ∧ valV kvs k = some v ∧ Q v (upd H a (.dT (dropK kvs k)))
theorem mt_popT1 (hu : X.A.units + 1 < cLine) : MtR X "dict.pop" rPopT1 := by
  intro pins s σ H x xs v us Q I rx rxs h
  obtain ⟨a, kvs, k, b, v0, rfl, rfl, ha, hb, hv, q⟩ := h
  cases rx
  obtain ⟨u1, rfl, r1⟩ := vals1 rxs
  cases r1
  obtain ⟨z, hd, ys, rel, dd⟩ := dt_of I.hok ha
  have r := rel.val k
  rw [hv] at r
  obtain ⟨w', hw, rw'⟩ := RelO.some_of (v := v0) (o := (atKey ys k).map (·.2)) r
  obtain ⟨p, hp, hp2⟩ := Option.map_eq_some_iff.mp hw
  refine call_pop_heap (hsz := (Paired.length rel) ▸ z) (.inl rfl) (PySem.F.args_dict_pop_2 _ _) (tupleKind_room_in1 hu) (key_of I.hok hb) hd dd hp fun h' dd' hs => ?_
  obtain ⟨o, es, ep, hq, h2, h3, h4, _, h5⟩ := dd'
  have keep : ∀ c ys, H c = some (.tup ys) → upd H a (.dT (dropK kvs k)) c = some (.tup ys) := fun c ys ec => (upd_ne (ne_of ec ha (fun z => nomatch z))).trans ec
  refine ⟨v0, upd H a (.dT (dropK kvs k)), d_write I (by rw [ha]; exact True.intro) hs ⟨o, hq⟩ ⟨Nat.le_trans (dropK_le kvs k) z, hd, _, (L2.DX.KT_drop k rel).keeps keep, o, es, ep, hq, h2, h3, h4, h5⟩, ?_, q⟩
  rw [hp2]
  exact rw'
end
end HL


namespace HR
open PySem PySem.Spec PyProof.Rows L2 HL
/-! ### all rings of a size, the least first -/
def allR (m : Nat) : Nat → List (List Int)
  | 0 => [[]]
  | n + 1 => (allR m n).flatMap fun r => (List.range m).map fun x : Nat => r ++ [(x : Int)]
theorem allR_succ (m n : Nat) : allR m (n + 1) = (allR m n).flatMap fun r => (List.range m).map fun x : Nat => r ++ [(x : Int)] := rfl
theorem flat_len {α β : Type} (f : α → List β) (c : Nat) : ∀ l : List α, (∀ a ∈ l, (f a).length = c) → (l.flatMap f).length = l.length * c
  | [], _ => by simp
  | a :: l, h => by
    rw [List.flatMap_cons, List.length_append, h a List.mem_cons_self, flat_len f c l fun b hb => h b (List.mem_cons_of_mem _ hb), List.length_cons, Nat.add_mul, Nat.one_mul, Nat.add_comm]
theorem allR_len (m : Nat) : ∀ n, (allR m n).length = m ^ n
  | 0 => rfl
  | n + 1 => by
    rw [allR_succ, flat_len _ m _ fun r _ => by rw [List.length_map, List.length_range], allR_len m n, Nat.pow_succ]
theorem mem_allR {m : Nat} : ∀ {n : Nat} {r : List Int}, r ∈ allR m n ↔ r.length = n ∧ ∀ x ∈ r, 0 ≤ x ∧ x < (m : Int)
  | 0, r => by
    show r ∈ [[]] ↔ _
    rw [List.mem_singleton]
    constructor
    · intro e
      subst e
      exact ⟨rfl, fun x hx => nomatch hx⟩
    · intro h
      exact List.eq_nil_of_length_eq_zero h.1
  | n + 1, r => by
    rw [allR_succ, List.mem_flatMap]
    constructor
    · rintro ⟨q, hq, h⟩
      obtain ⟨x, hx, rfl⟩ := List.mem_map.mp h
      obtain ⟨h1, h2⟩ := mem_allR.mp hq
      have hx := List.mem_range.mp hx
      refine ⟨by rw [List.length_append, h1]; rfl, fun y hy => ?_⟩
      rcases List.mem_append.mp hy with z | z
      · exact h2 y z
      · have e := List.mem_singleton.mp z
        subst e
        omega
    · rintro ⟨h1, h2⟩
      have ne : r ≠ [] := fun e => by
        subst e
        cases h1
      have e := List.dropLast_concat_getLast ne
      have hl := h2 _ (List.getLast_mem ne)
      refine ⟨r.dropLast, mem_allR.mpr ⟨by rw [List.length_dropLast, h1]; rfl, fun x hx => h2 x (List.dropLast_subset r hx)⟩, List.mem_map.mpr ⟨(r.getLast ne).toNat, List.mem_range.mpr (by omega), ?_⟩⟩
      rw [Int.toNat_of_nonneg hl.1]
      exact e
theorem allR_nodup (m : Nat) : ∀ n, (allR m n).Nodup
  | 0 => by
    show [[]].Nodup
    exact List.nodup_cons.mpr ⟨List.not_mem_nil, List.nodup_nil⟩
  | n + 1 => by
    have ih := allR_nodup m n
    rw [allR_succ, List.nodup_iff_pairwise_ne, List.pairwise_flatMap]
    refine ⟨fun r _ => ?_, ?_⟩
    · rw [List.pairwise_map]
      refine List.Pairwise.imp ?_ List.nodup_range
      intro a b ne e
      have := List.append_cancel_left e
      have := List.head_eq_of_cons_eq this
      omega
    · refine List.Pairwise.imp ?_ ih
      intro a b ne x hx y hy e
      obtain ⟨i, _, rfl⟩ := List.mem_map.mp hx
      obtain ⟨j, _, rfl⟩ := List.mem_map.mp hy
      exact ne (List.append_inj_left' e rfl)
theorem good_all {m n : Nat} {r : List Int} (h : r ∈ allR m n) (n2 : 2 ≤ n) (n12 : n ≤ 12) (m2 : 2 ≤ m) (m100 : m ≤ 100) : Good n (m : Int) r := by
  obtain ⟨h1, h2⟩ := mem_allR.mp h
  exact ⟨h1, n2, n12, by omega, by omega, h2⟩
theorem all_good {m n : Nat} {r : List Int} (g : Good n (m : Int) r) : r ∈ allR m n := mem_allR.mpr ⟨g.len, g.val⟩
theorem all_step {m n : Nat} {r : List Int} (h : r ∈ allR m n) (n2 : 2 ≤ n) (n12 : n ≤ 12) (m2 : 2 ≤ m) (m100 : m ≤ 100) (k : Nat) : step (m : Int) r k ∈ allR m n := all_good ((good_all h n2 n12 m2 m100).step k)
/-! ### how long an order can last, by rounds -/
def stepsOf (m : Int) (r : List Int) : List (List Int) := (able r).map (step m r)
def known (m : Int) : Nat → List Int → Option Nat
  | 0, r => if (able r).length = 1 then some 0 else none
  | t + 1, r => match known m t r with
    | some h => some h
    | none => if (stepsOf m r).all (fun q => (known m t q).isSome) = true then some (1 + ((stepsOf m r).map fun q => (known m t q).getD 0).foldr max 0) else none
theorem known_zero (m : Int) (r : List Int) : known m 0 r = if (able r).length = 1 then some 0 else none := rfl
theorem known_keep {m : Int} {t : Nat} {r : List Int} {h : Nat} (e : known m t r = some h) : known m (t + 1) r = some h := by
  show (match known m t r with
    | some h => some h
    | none => _) = some h
  rw [e]
theorem known_new {m : Int} {t : Nat} {r : List Int} (e : known m t r = none) : known m (t + 1) r = if (stepsOf m r).all (fun q => (known m t q).isSome) = true then some (1 + ((stepsOf m r).map fun q => (known m t q).getD 0).foldr max 0) else none := by
  show (match known m t r with
    | some h => some h
    | none => _) = _
  rw [e]
theorem known_healed {m : Int} {r : List Int} (h : (able r).length = 1) : ∀ t, known m t r = some 0
  | 0 => if_pos h
  | t + 1 => known_keep (known_healed h t)
/-- nothing is found any more -/
def stable (m n : Nat) (t : Nat) : Prop := ∀ r ∈ allR m n, known (m : Int) (t + 1) r = known (m : Int) t r
theorem known_cong {m : Int} {t u : Nat} {r : List Int} (e : known m t r = known m u r) (es : ∀ q ∈ stepsOf m r, known m t q = known m u q) : known m (t + 1) r = known m (u + 1) r := by
  cases h : known m t r with
  | some x => rw [known_keep h, known_keep (e ▸ h)]
  | none =>
    have a1 : (stepsOf m r).all (fun q => (known m t q).isSome) = (stepsOf m r).all (fun q => (known m u q).isSome) := by
      refine Bool.eq_iff_iff.mpr ?_
      rw [List.all_eq_true, List.all_eq_true]
      exact ⟨fun z q hq => by rw [← es q hq]; exact z q hq, fun z q hq => by rw [es q hq]; exact z q hq⟩
    have a2 : ((stepsOf m r).map fun q => (known m t q).getD 0) = ((stepsOf m r).map fun q => (known m u q).getD 0) := List.map_congr_left fun q hq => by rw [es q hq]
    rw [known_new h, known_new (e ▸ h), a1, a2]
section
variable {m n : Nat} (n2 : 2 ≤ n) (n12 : n ≤ 12) (m2 : 2 ≤ m) (m100 : m ≤ 100)
include n2 n12 m2 m100
theorem steps_all {r q : List Int} (h : r ∈ allR m n) (hq : q ∈ stepsOf (m : Int) r) : q ∈ allR m n := by
  obtain ⟨k, _, rfl⟩ := List.mem_map.mp hq
  exact all_step h n2 n12 m2 m100 k
theorem stable_on {t : Nat} (s : stable m n t) : ∀ d, ∀ r ∈ allR m n, known (m : Int) (t + d) r = known (m : Int) t r
  | 0, _, _ => rfl
  | d + 1, r, hr => by
    have ih := stable_on s d
    have e := known_cong (t := t + d) (u := t) (ih r hr) fun q hq => ih q (steps_all n2 n12 m2 m100 hr hq)
    exact e.trans (s r hr)
theorem stable_one {t u : Nat} (s : stable m n t) (s' : stable m n u) {r : List Int} (hr : r ∈ allR m n) : known (m : Int) t r = known (m : Int) u r := by
  rcases Nat.le_total t u with h | h
  · have := stable_on n2 n12 m2 m100 s (u - t) r hr
    rw [show t + (u - t) = u by omega] at this
    exact this.symm
  · have := stable_on n2 n12 m2 m100 s' (t - u) r hr
    rw [show u + (t - u) = t by omega] at this
    exact this
/-- one from which some order never heals leads on to another such one -/
theorem unknown_next {t : Nat} (s : stable m n t) {r : List Int} (hr : r ∈ allR m n) (h : known (m : Int) t r = none) : ∃ k, (able r).find? (fun k => (known (m : Int) t (step (m : Int) r k)).isNone) = some k := by
  cases e : (able r).find? (fun k => (known (m : Int) t (step (m : Int) r k)).isNone) with
  | some k => exact ⟨k, rfl⟩
  | none =>
    exfalso
    have all : (stepsOf (m : Int) r).all (fun q => (known (m : Int) t q).isSome) = true := by
      rw [List.all_eq_true]
      intro q hq
      obtain ⟨k, hk, rfl⟩ := List.mem_map.mp hq
      have := List.find?_eq_none.mp e k hk
      cases z : known (m : Int) t (step (m : Int) r k) with
      | some x => rfl
      | none =>
        rw [z] at this
        exact absurd rfl this
    have k1 := known_new h
    rw [if_pos all, s r hr, h] at k1
    cases k1
end
/-- how many are not known -/
def unk (m n t : Nat) : Nat := ((allR m n).filter fun r => (known (m : Int) t r).isNone).length
theorem filter_lt {α : Type} {p q : α → Bool} : ∀ {l : List α}, (∀ x ∈ l, q x = true → p x = true) → (∃ x ∈ l, p x = true ∧ q x = false) → (l.filter q).length < (l.filter p).length
  | [], _, ⟨x, hx, _⟩ => nomatch hx
  | a :: l, h, ex => by
    have hl : ∀ x ∈ l, q x = true → p x = true := fun x hx => h x (List.mem_cons_of_mem _ hx)
    have le : (l.filter q).length ≤ (l.filter p).length := by
      clear ex h
      induction l with
      | nil => exact Nat.le_refl _
      | cons b l ih =>
        have ih := ih fun x hx => hl x (List.mem_cons_of_mem _ hx)
        rw [List.filter_cons, List.filter_cons]
        by_cases c : q b = true
        · rw [if_pos c, if_pos (hl b List.mem_cons_self c)]
          exact Nat.succ_le_succ ih
        · rw [if_neg c]
          split
          · exact Nat.le_succ_of_le ih
          · exact ih
    rw [List.filter_cons, List.filter_cons]
    by_cases c : q a = true
    · rw [if_pos c, if_pos (h a List.mem_cons_self c)]
      refine Nat.succ_lt_succ (filter_lt hl ?_)
      obtain ⟨x, hx, h1, h2⟩ := ex
      rcases List.mem_cons.mp hx with e | e
      · subst e
        rw [c] at h2
        cases h2
      · exact ⟨x, e, h1, h2⟩
    · rw [if_neg c]
      by_cases c2 : p a = true
      · rw [if_pos c2]
        exact Nat.lt_succ_of_le le
      · rw [if_neg c2]
        refine filter_lt hl ?_
        obtain ⟨x, hx, h1, h2⟩ := ex
        rcases List.mem_cons.mp hx with e | e
        · subst e
          exact absurd h1 c2
        · exact ⟨x, e, h1, h2⟩
theorem unk_lt {m n t : Nat} {r : List Int} (hr : r ∈ allR m n) (h : known (m : Int) t r = none) (h1 : known (m : Int) (t + 1) r ≠ none) : unk m n (t + 1) < unk m n t := by
  refine filter_lt (fun x _ hx => ?_) ⟨r, hr, by rw [h]; rfl, ?_⟩
  · cases z : known (m : Int) t x with
    | none => rfl
    | some y =>
      rw [known_keep z] at hx
      cases hx
  · cases z : known (m : Int) (t + 1) r with
    | none => exact absurd z h1
    | some y => rfl
/-! ### the way around -/
def pickW (m : Int) (t : Nat) (r : List Int) : Nat := ((able r).find? fun k => (known m t (step m r k)).isNone).getD 0
def ringW (m : Int) (t : Nat) (r : List Int) : Nat → List Int
  | 0 => r
  | i + 1 => step m (ringW m t r i) (pickW m t (ringW m t r i))
def orderW (m : Int) (t : Nat) (r : List Int) (i : Nat) : List Nat := (List.range i).map fun j => pickW m t (ringW m t r j)
theorem orderW_len (m : Int) (t : Nat) (r : List Int) (i : Nat) : (orderW m t r i).length = i := by unfold orderW; rw [List.length_map, List.length_range]
theorem orderW_succ (m : Int) (t : Nat) (r : List Int) (i : Nat) : orderW m t r (i + 1) = orderW m t r i ++ [pickW m t (ringW m t r i)] := range_map_succ _ i
theorem ringW_add (m : Int) (t : Nat) (r : List Int) (j : Nat) : ∀ d, run m (ringW m t r j) ((orderW m t r (j + d)).drop j) = ringW m t r (j + d)
  | 0 => by
    rw [Nat.add_zero, List.drop_of_length_le (by rw [orderW_len]; exact Nat.le_refl _)]
    rfl
  | d + 1 => by
    rw [← Nat.add_assoc, orderW_succ, List.drop_append_of_le_length (by rw [orderW_len]; omega), run_snoc, ringW_add m t r j d]
    rfl
section
variable {m n : Nat} (n2 : 2 ≤ n) (n12 : n ≤ 12) (m2 : 2 ≤ m) (m100 : m ≤ 100)
include n2 n12 m2 m100
theorem pick_ok {t : Nat} (s : stable m n t) {r : List Int} (hr : r ∈ allR m n) (h : known (m : Int) t r = none) : pickW (m : Int) t r ∈ able r ∧ known (m : Int) t (step (m : Int) r (pickW (m : Int) t r)) = none := by
  obtain ⟨k, e⟩ := unknown_next n2 n12 m2 m100 s hr h
  have ek : pickW (m : Int) t r = k := by
    unfold pickW
    rw [e]
    rfl
  rw [ek]
  refine ⟨List.mem_of_find?_eq_some e, ?_⟩
  have := List.find?_some e
  cases z : known (m : Int) t (step (m : Int) r k) with
  | none => rfl
  | some x =>
    rw [z] at this
    cases this
theorem ringW_ok {t : Nat} (s : stable m n t) {r : List Int} (hr : r ∈ allR m n) (h : known (m : Int) t r = none) : ∀ i, ringW (m : Int) t r i ∈ allR m n ∧ known (m : Int) t (ringW (m : Int) t r i) = none
  | 0 => ⟨hr, h⟩
  | i + 1 => by
    obtain ⟨h1, h2⟩ := ringW_ok s hr h i
    exact ⟨all_step h1 n2 n12 m2 m100 _, (pick_ok n2 n12 m2 m100 s h1 h2).2⟩
/-- the way from the j-th ring on can be gone, and no ring on it is healed -/
theorem wayW_ok {t : Nat} (s : stable m n t) {r : List Int} (hr : r ∈ allR m n) (h : known (m : Int) t r = none) (j : Nat) : ∀ d, legal (m : Int) (ringW (m : Int) t r j) ((orderW (m : Int) t r (j + d)).drop j) ∧ sick (m : Int) (ringW (m : Int) t r j) ((orderW (m : Int) t r (j + d)).drop j)
  | 0 => by
    rw [Nat.add_zero, List.drop_of_length_le (by rw [orderW_len]; exact Nat.le_refl _)]
    exact ⟨trivial, trivial⟩
  | d + 1 => by
    obtain ⟨h1, h2⟩ := wayW_ok s hr h j d
    obtain ⟨a1, a2⟩ := ringW_ok n2 n12 m2 m100 s hr h (j + d)
    rw [← Nat.add_assoc, orderW_succ, List.drop_append_of_le_length (by rw [orderW_len]; omega)]
    refine ⟨legal_snoc.mpr ⟨h1, ?_⟩, sick_snoc.mpr ⟨h2, ?_⟩⟩
    · rw [ringW_add]
      exact (pick_ok n2 n12 m2 m100 s a1 a2).1
    · rw [ringW_add]
      intro e
      rw [known_healed e t] at a2
      cases a2
/-- so many rings in a row can't all differ -/
theorem ringW_few {t : Nat} (s : stable m n t) {r : List Int} (hr : r ∈ allR m n) (h : known (m : Int) t r = none) {i : Nat} (nd : ((List.range i).map (ringW (m : Int) t r)).Nodup) : i ≤ m ^ n := by
  have := erase_sub nd (l' := allR m n) fun x hx => by
    obtain ⟨j, _, rfl⟩ := List.mem_map.mp hx
    exact (ringW_ok n2 n12 m2 m100 s hr h j).1
  rw [List.length_map, List.length_range, allR_len] at this
  exact this
end
end HR


namespace HL
open PySem PySem.Spec PyProof.Rows L2
/-- a, b as the target within a comprehension -/
theorem pg_tupK {X : Cx} {K : PySem.W.Frag} {es : List Expr} {k : Nat} {t : TGs} {n : Nat} {pos : Pos} (calm : X.calm = true) (h : PGs X es t) (hK : X.K = K := by rfl)
    (hn : (assignEach es X.env).length = n := by rfl) (hst : (assignEach es X.env).findIdx? (·.1) = none := by rfl) : PG X (.Tuple es k pos) (gTup K n t) := hK ▸ pg_tup calm h hn hst
/-- for x in a list within a comprehension -/
theorem pi_listK {X : Cx} {K : PySem.W.Frag} {tg e : Expr} {td : TE} (he : PE X e td) (hK : X.K = K := by rfl) : PI X tg e (iList K td) := hK ▸ pi_list he
/-- *e within a comprehension -/
theorem pa_starK {X : Cx} {K : PySem.W.Frag} {e : Expr} {es : List Expr} {te : TE} {t : TA} {p : Pos} (he : PE X e te) (hr : PA X es t) (hK : X.K = K := by rfl) (hs : starEach (.Starred e p :: es) X.env = (true, eval e X.env) :: starEach es X.env := by rfl) : PA X (.Starred e p :: es) (StX.tStar K te t) := hK ▸ StX.pa_star he hr hs
/-- t + u of tuples that stand by themselves -/
def rCatX (K : PySem.W.Frag) : R2 := fun x y H Q => ∃ a b xs ys, x = .ref a ∧ y = .ref b ∧ H a = some (.tup xs) ∧ H b = some (.tup ys) ∧ xs.length + ys.length ≤ sizeLine ∧ ∀ p H', Same H H' → H' p = some (.tup (xs ++ ys)) → Q (.ref p) H'
theorem op_catX {X : Cx} : OpR X (binaryOp .Add) (rCatX X.K) := by
  intro pins s σ H x y v u Q I rx ry h
  obtain ⟨a, b, xs, ys, rfl, rfl, ha, hb, hz, q⟩ := h
  exact op_catA pins s σ H _ _ v u Q I rx ry ⟨a, b, xs, ys, rfl, rfl, SqT.of ha, SqT.of hb, hz, fun z => q b H (Same.refl H) (by rw [z]; exact hb), fun _ z => q a H (Same.refl H) (by rw [z, List.append_nil]; exact ha), fun _ _ p hp => q p _ (same_new hp) upd_same⟩
/-- a lock comes off again -/
theorem same_unlock {H H' : Hp} {d : Addr} {u : HO} {o : Obj} (e : H d = some u) (s : Same (upd H d (.frz o u)) H') : Same H (upd H' d u) := fun b z hb => by
  by_cases c : b = d
  · subst c
    rw [upd_same]
    exact e.symm.trans hb
  · rw [upd_ne c]
    exact s b z ((upd_ne c).trans hb)
theorem same_lock {H : Hp} {d b : Addr} {u z : HO} {o : Obj} (ne : b ≠ d) (hb : H b = some z) : upd H d (.frz o u) b = some z := (upd_ne ne).trans hb
end HL
namespace HR
open PySem PySem.Spec PyProof.Rows L2 HL
def keyOf (r : List Int) : List L2.Key := r.map Sum.inl
theorem keyOf_V (r : List Int) : (keyOf r).map kV = r.map V.int := by
  unfold keyOf
  rw [List.map_map]
  rfl
theorem keyOf_inj : ∀ {r q : List Int}, keyOf r = keyOf q → r = q
  | [], [], _ => rfl
  | [], _ :: _, h => nomatch h
  | _ :: _, [], h => nomatch h
  | a :: r, b :: q, h => by
    have h1 : Sum.inl (β := Str) a = Sum.inl b := List.head_eq_of_cons_eq h
    have h2 : keyOf r = keyOf q := List.tail_eq_of_cons_eq h
    rw [Sum.inl.inj h1, keyOf_inj h2]
/-- tuples of ints that stand by themselves -/
def KeysAt (H : Hp) (ts : List Addr) (rs : List (List Int)) : Prop := ts.length = rs.length ∧ ∀ (i : Nat) (t : Addr) (r : List Int), ts[i]? = some t → rs[i]? = some r → H t = some (.tup (r.map V.int))
theorem KeysAt.on {H H' : Hp} {ts : List Addr} {rs : List (List Int)} (h : KeysAt H ts rs) (e : Same H H') : KeysAt H' ts rs := ⟨h.1, fun i t r a b => e _ _ (h.2 i t r a b)⟩
theorem KeysAt.nil {H : Hp} : KeysAt H [] [] := ⟨rfl, fun i t r a => by cases a⟩
theorem KeysAt.push {H : Hp} {ts : List Addr} {rs : List (List Int)} {t : Addr} {r : List Int} (h : KeysAt H ts rs) (ht : H t = some (.tup (r.map V.int))) : KeysAt H (ts ++ [t]) (rs ++ [r]) := by
  refine ⟨by rw [List.length_append, List.length_append, h.1]; rfl, fun i t' r' a b => ?_⟩
  by_cases c : i < ts.length
  · rw [List.getElem?_append_left c] at a
    rw [List.getElem?_append_left (by rw [← h.1]; exact c)] at b
    exact h.2 i t' r' a b
  · rw [List.getElem?_append_right (by omega)] at a
    rw [List.getElem?_append_right (by rw [← h.1]; omega)] at b
    have c0 : i - ts.length = 0 := by
      have := (List.getElem?_eq_some_iff.mp a).1
      rw [List.length_singleton] at this
      omega
    rw [c0] at a
    rw [← h.1, c0] at b
    have e1 : t = t' := Option.some.inj a
    have e2 : r = r' := Option.some.inj b
    subst e1 e2
    exact ht
/-- a store at l leaves the tuples -/
theorem KeysAt.wr {H : Hp} {l : Addr} {o o' : HO} {ts : List Addr} {rs : List (List Int)} (h : KeysAt H ts rs) (hl : H l = some o) (nt : ∀ xs, o ≠ .tup xs) : KeysAt (upd H l o') ts rs := ⟨h.1, fun i t r a b => by
  have z := h.2 i t r a b
  have ne : t ≠ l := fun e => by
    rw [e, hl] at z
    exact nt _ (Option.some.inj z)
  exact (upd_ne ne).trans z⟩
theorem KeysAt.get {H : Hp} {ts : List Addr} {rs : List (List Int)} (h : KeysAt H ts rs) {i : Nat} {r : List Int} (e : rs[i]? = some r) : ∃ t, ts[i]? = some t ∧ H t = some (.tup (r.map V.int)) := by
  have hi : i < ts.length := by
    rw [h.1]
    exact (List.getElem?_eq_some_iff.mp e).1
  exact ⟨_, List.getElem?_eq_getElem hi, h.2 i _ _ (List.getElem?_eq_getElem hi) e⟩
/-- the ways on from r: a list at w of pairs -/
def WayAt (H : Hp) (w : Addr) (m : Int) (r : List Int) : Prop := ∃ ps : List Addr, H w = some (.lst (ps.map V.ref)) ∧ ps.length = (able r).length ∧
  ∀ (j : Nat) (p : Addr) (k : Nat), ps[j]? = some p → (able r)[j]? = some k → ∃ q, H p = some (.tup [.int (k : Int), .ref q]) ∧ H q = some (.tup ((step m r k).map V.int))
theorem WayAt.on {H H' : Hp} {w : Addr} {m : Int} {r : List Int} (h : WayAt H w m r) (e : Same H H') : WayAt H' w m r := by
  obtain ⟨ps, h1, h2, h3⟩ := h
  refine ⟨ps, e _ _ h1, h2, fun j p k a b => ?_⟩
  obtain ⟨q, x, y⟩ := h3 j p k a b
  exact ⟨q, e _ _ x, e _ _ y⟩
/-- a store to a dict leaves the ways -/
theorem WayAt.wr {H : Hp} {w d : Addr} {m : Int} {r : List Int} {o o' : HO} (h : WayAt H w m r) (hd : H d = some o) (nt : ∀ xs, o ≠ .tup xs) (nl : ∀ xs, o ≠ .lst xs) : WayAt (upd H d o') w m r := by
  obtain ⟨ps, h1, h2, h3⟩ := h
  have ne : ∀ {b : Addr} {z : HO}, H b = some z → z ≠ o → b ≠ d := fun {b z} hb hz e => by
    rw [e, hd] at hb
    exact hz (Option.some.inj hb).symm
  refine ⟨ps, (upd_ne (ne h1 fun e => nl _ e.symm)).trans h1, h2, fun j p k a b => ?_⟩
  obtain ⟨q, x, y⟩ := h3 j p k a b
  exact ⟨q, (upd_ne (ne x fun e => nt _ e.symm)).trans x, (upd_ne (ne y fun e => nt _ e.symm)).trans y⟩
/-- of every ring, in their order, its ways on -/
def WaysOf (H : Hp) (m : Int) (kvs : List (List L2.Key × V)) (rs : List (List Int)) : Prop := kvs.map (·.1) = rs.map keyOf ∧ ∀ r ∈ rs, ∃ w, valV kvs (keyOf r) = some (.ref w) ∧ WayAt H w m r
theorem WaysOf.on {H H' : Hp} {m : Int} {kvs : List (List L2.Key × V)} {rs : List (List Int)} (h : WaysOf H m kvs rs) (e : Same H H') : WaysOf H' m kvs rs := ⟨h.1, fun r hr => by
  obtain ⟨w, a, b⟩ := h.2 r hr
  exact ⟨w, a, b.on e⟩⟩
theorem WaysOf.wr {H : Hp} {m : Int} {kvs : List (List L2.Key × V)} {rs : List (List Int)} {d : Addr} {o o' : HO} (h : WaysOf H m kvs rs) (hd : H d = some o) (nt : ∀ xs, o ≠ .tup xs) (nl : ∀ xs, o ≠ .lst xs) : WaysOf (upd H d o') m kvs rs := ⟨h.1, fun r hr => by
  obtain ⟨w, a, b⟩ := h.2 r hr
  exact ⟨w, a, b.wr hd nt nl⟩⟩
/-- the keys of such a dict are rings of the size, each once -/
def Keyed (m n : Nat) (kvs : List (List L2.Key × V)) : Prop := (kvs.map (·.1)).Nodup ∧ ∀ k ∈ kvs.map (·.1), ∃ r ∈ allR m n, k = keyOf r
theorem Keyed.nil {m n : Nat} : Keyed m n [] := ⟨List.nodup_nil, fun k hk => nomatch hk⟩
theorem putK_keys (kvs : List (List L2.Key × V)) (k : List L2.Key) (v : V) : (putK kvs k v).map (·.1) = if (kvs.any fun kv => decide (kv.1 = k)) = true then kvs.map (·.1) else kvs.map (·.1) ++ [k] := by
  unfold putK
  split
  · rw [List.map_map]
    refine List.map_congr_left fun x _ => ?_
    show (if x.1 = k then (x.1, v) else x).1 = x.1
    split <;> rfl
  · rw [List.map_append]
    rfl
theorem Keyed.put {m n : Nat} {kvs : List (List L2.Key × V)} (h : Keyed m n kvs) {r : List Int} (hr : r ∈ allR m n) (v : V) : Keyed m n (putK kvs (keyOf r) v) := by
  unfold Keyed
  rw [putK_keys]
  by_cases c : (kvs.any fun kv => decide (kv.1 = keyOf r)) = true
  · rw [if_pos c]
    exact h
  · rw [if_neg c]
    refine ⟨?_, fun k hk => ?_⟩
    · rw [List.nodup_append]
      refine ⟨h.1, List.nodup_cons.mpr ⟨List.not_mem_nil, List.nodup_nil⟩, fun a ha b hb e => ?_⟩
      have e2 := List.mem_singleton.mp hb
      subst e2
      subst e
      obtain ⟨x, hx, e3⟩ := List.mem_map.mp ha
      exact c (List.any_eq_true.mpr ⟨x, hx, decide_eq_true e3⟩)
    · rcases List.mem_append.mp hk with z | z
      · exact h.2 k z
      · exact ⟨r, hr, List.mem_singleton.mp z⟩
theorem Keyed.len {m n : Nat} {kvs : List (List L2.Key × V)} (h : Keyed m n kvs) : kvs.length ≤ m ^ n := by
  have := erase_sub h.1 (l' := (allR m n).map keyOf) fun k hk => by
    obtain ⟨r, hr, e⟩ := h.2 k hk
    exact List.mem_map.mpr ⟨r, hr, e.symm⟩
  rw [List.length_map, List.length_map, allR_len] at this
  exact this
theorem valV_key {kvs : List (List L2.Key × V)} {k : List L2.Key} : (valV kvs k).isSome = true ↔ k ∈ kvs.map (·.1) := by
  rw [← valV_any, List.any_eq_true, List.mem_map]
  exact ⟨fun ⟨x, hx, e⟩ => ⟨x, hx, of_decide_eq_true e⟩, fun ⟨x, hx, e⟩ => ⟨x, hx, decide_eq_true e⟩⟩
/-- as many as there are rings: then all -/
theorem Keyed.full {m n : Nat} {kvs : List (List L2.Key × V)} (h : Keyed m n kvs) : kvs.length = m ^ n ↔ ∀ r ∈ allR m n, (valV kvs (keyOf r)).isSome = true := by
  have ndk : ((allR m n).map keyOf).Nodup := by
    rw [List.nodup_iff_pairwise_ne, List.pairwise_map]
    exact List.Pairwise.imp (fun ne e => ne (keyOf_inj e)) (allR_nodup m n)
  constructor
  · intro e r hr
    rw [valV_key]
    cases Classical.em (keyOf r ∈ kvs.map (·.1)) with
    | inl q => exact q
    | inr q =>
      exfalso
      have := erase_sub (l := keyOf r :: kvs.map (·.1)) (l' := (allR m n).map keyOf) (List.nodup_cons.mpr ⟨q, h.1⟩) fun k hk => by
        rcases List.mem_cons.mp hk with z | z
        · rw [z]
          exact List.mem_map.mpr ⟨r, hr, rfl⟩
        · obtain ⟨r', hr', e⟩ := h.2 k z
          exact List.mem_map.mpr ⟨r', hr', e.symm⟩
      rw [List.length_cons, List.length_map, List.length_map, allR_len, e] at this
      omega
  · intro a
    have le := h.len
    have := erase_sub ndk (l' := kvs.map (·.1)) fun k hk => by
      obtain ⟨r, hr, e⟩ := List.mem_map.mp hk
      rw [← e]
      exact valV_key.mp (a r hr)
    rw [List.length_map, List.length_map, allR_len] at this
    omega
/-- the dict of heights holds what is known by the round t -/
def StepsAt (m n : Nat) (t : Nat) (kvs : List (List L2.Key × V)) : Prop := Keyed m n kvs ∧ ∀ r ∈ allR m n, valV kvs (keyOf r) = (known (m : Int) t r).map fun h : Nat => V.int (h : Int)
/-- a list at w of the rings that can come next -/
def NextAt (H : Hp) (w : Addr) (m : Int) (r : List Int) : Prop := ∃ us : List Addr, H w = some (.lst (us.map V.ref)) ∧ KeysAt H us (stepsOf m r)
theorem NextAt.on {H H' : Hp} {w : Addr} {m : Int} {r : List Int} (h : NextAt H w m r) (e : Same H H') : NextAt H' w m r := by
  obtain ⟨us, h1, h2⟩ := h
  exact ⟨us, e _ _ h1, h2.on e⟩
theorem NextAt.wr {H : Hp} {w d : Addr} {m : Int} {r : List Int} {o o' : HO} (h : NextAt H w m r) (hd : H d = some o) (nt : ∀ xs, o ≠ .tup xs) (nl : ∀ xs, o ≠ .lst xs) : NextAt (upd H d o') w m r := by
  obtain ⟨us, h1, h2⟩ := h
  have ne : w ≠ d := fun e => by
    rw [e, hd] at h1
    exact nl _ (Option.some.inj h1)
  exact ⟨us, (upd_ne ne).trans h1, h2.wr hd nt⟩
/-- what is left: the rings rs, each with those that can come next -/
def LeftOf (H : Hp) (m : Int) (kvs : List (List L2.Key × V)) (rs : List (List Int)) : Prop := kvs.map (·.1) = rs.map keyOf ∧ ∀ r ∈ rs, ∃ w, valV kvs (keyOf r) = some (.ref w) ∧ NextAt H w m r
theorem LeftOf.on {H H' : Hp} {m : Int} {kvs : List (List L2.Key × V)} {rs : List (List Int)} (h : LeftOf H m kvs rs) (e : Same H H') : LeftOf H' m kvs rs := ⟨h.1, fun r hr => by
  obtain ⟨w, a, b⟩ := h.2 r hr
  exact ⟨w, a, b.on e⟩⟩
theorem LeftOf.wr {H : Hp} {m : Int} {kvs : List (List L2.Key × V)} {rs : List (List Int)} {d : Addr} {o o' : HO} (h : LeftOf H m kvs rs) (hd : H d = some o) (nt : ∀ xs, o ≠ .tup xs) (nl : ∀ xs, o ≠ .lst xs) : LeftOf (upd H d o') m kvs rs := ⟨h.1, fun r hr => by
  obtain ⟨w, a, b⟩ := h.2 r hr
  exact ⟨w, a, b.wr hd nt nl⟩⟩
theorem LeftOf.new {H : Hp} {m : Int} {kvs : List (List L2.Key × V)} {rs : List (List Int)} {r : List Int} {w : Addr} (h : LeftOf H m kvs rs) (nw : r ∉ rs) (hw : NextAt H w m r) : LeftOf H m (putK kvs (keyOf r) (.ref w)) (rs ++ [r]) := by
  have none1 : valV kvs (keyOf r) = none := by
    cases ev : valV kvs (keyOf r) with
    | none => rfl
    | some u =>
      exfalso
      have k1 := valV_key.mp (by rw [ev]; rfl : (valV kvs (keyOf r)).isSome = true)
      rw [h.1] at k1
      obtain ⟨r', hr', e⟩ := List.mem_map.mp k1
      rw [keyOf_inj e] at hr'
      exact nw hr'
  refine ⟨?_, fun r' hr' => ?_⟩
  · rw [putK_keys, if_neg (by rw [valV_any, none1]; exact Bool.false_ne_true), h.1, List.map_append]
    rfl
  · rcases List.mem_append.mp hr' with z | z
    · obtain ⟨w', a1, a2⟩ := h.2 r' z
      refine ⟨w', ?_, a2⟩
      rw [valV_put, if_neg (fun e => nw ((keyOf_inj e : r' = r) ▸ z))]
      exact a1
    · have e := List.mem_singleton.mp z
      subst e
      exact ⟨w, by rw [valV_put, if_pos rfl], hw⟩
theorem valV_drop {kvs : List (List L2.Key × V)} {k j : List L2.Key} (h : j ≠ k) : valV (dropK kvs k) j = valV kvs j := by
  unfold valV dropK
  rw [List.find?_filter]
  congr 1
  refine congrArg (fun p => List.find? p kvs) ?_
  funext x
  by_cases c : x.1 = j
  · simp [c, h]
  · simp [c]
/-- one is taken out -/
theorem LeftOf.out {H : Hp} {m : Int} {kvs : List (List L2.Key × V)} {rs : List (List Int)} (h : LeftOf H m kvs rs) (r : List Int) : LeftOf H m (dropK kvs (keyOf r)) (rs.filter fun q => decide (q ≠ r)) := by
  refine ⟨?_, fun q hq => ?_⟩
  · have e : ∀ (kvs : List (List L2.Key × V)) (rs : List (List Int)), kvs.map (·.1) = rs.map keyOf → (dropK kvs (keyOf r)).map (·.1) = (rs.filter fun q => decide (q ≠ r)).map keyOf := by
      intro kvs
      induction kvs with
      | nil =>
        intro rs e
        cases rs with
        | nil => rfl
        | cons a b => cases e
      | cons x kvs ih =>
        intro rs e
        cases rs with
        | nil => cases e
        | cons a b =>
          have e1 : x.1 = keyOf a := List.head_eq_of_cons_eq e
          have e2 : kvs.map (·.1) = b.map keyOf := List.tail_eq_of_cons_eq e
          have ih := ih b e2
          unfold dropK at ih ⊢
          rw [List.filter_cons, List.filter_cons]
          by_cases c : a = r
          · subst c
            rw [if_neg (by simp [e1]), if_neg (by simp)]
            exact ih
          · have c2 : ¬ x.1 = keyOf r := fun z => c (keyOf_inj (e1.symm.trans z))
            rw [if_pos (by simp [c2]), if_pos (by simp [c]), List.map_cons, List.map_cons, ih, e1]
    exact e _ _ h.1
  · obtain ⟨h1, h2⟩ := List.mem_filter.mp hq
    obtain ⟨w, a, b⟩ := h.2 q h1
    refine ⟨w, ?_, b⟩
    rw [valV_drop (fun z => (by simpa using h2 : ¬ q = r) (keyOf_inj z))]
    exact a
end HR


namespace HL
open PySem PySem.Spec PyProof.Rows L2
theorem units65 {k : Nat} {A : Around} (r : Room k A) : A.units + 65 < cLine := by
  have := r.un
  omega
/-! ### a list walked within an except suite, by a body that leaves before the list's end -/
def ItlG (K : PySem.W.Frag) (a : Addr) : It := ⟨(Itl K a).go, (Itl K a).yld, fun _ _ => False⟩
theorem turn_listG {P : Program} {w : World} {K : PySem.W.Frag} {tg : Expr} (a it : Addr) : L2H.TurnH P w K tg (ItlG K a) [it] it (fun i h => h.IsListIter it a i) where
  mem := List.mem_cons_self
  obj := fun i h st b hb => (turn_list (P := P) (w := w) (K := K) (tg := tg) a it).obj i h st b hb
  keep := fun i h h' st k => (turn_list (P := P) (w := w) (K := K) (tg := tg) a it).keep i h h' st k
  item := fun X hP hw hK hc i pins s σ H E I hf st hg => by
    subst hP hw hK
    obtain ⟨xs, x, hq, hx⟩ := hg
    obtain ⟨its, rv, p, hz⟩ := I.list hq
    obtain ⟨u, hu, ru⟩ := rv.get hx
    obtain ⟨g0, g1, g2, g3, g4, g5⟩ := hf it List.mem_cons_self
    refine wpAny_pyNext_list_item st p.isList (x := u) (by simpa using hu) fun h' st' sb => ?_
    have J : Inv X pins σ H { s with heap := h' } := I.turned (t' := s.toks) (fun b o hb z => (sb.2 b hb).trans z) g0 g1 g3 g4 g5
    obtain ⟨o, z, c, d⟩ := id st'
    exact ⟨u, rfl, go_of (s := { s with heap := h' }) z c d (by decide) ⟨x, H, J, ru, ⟨rfl, fun ys hy => (I.list_inj hy hq) ▸ hx⟩, st', fun b hb => (hf b hb).1⟩⟩
  done := fun X hP hw hK hc i pins s σ H E I hf st hg => hg.elim
  self := fun _ _ _ _ _ st h => wpAny_pyIter_listiter st h
def iListG (K : PySem.W.Frag) (tl : TE) : TI := fun σ H R => tl σ H fun x H1 => ∃ a, x = .ref a ∧ (∃ xs, SqL K H1 a xs) ∧ R (ItlG K a) H1
theorem pi_listG {X : Cx} {tg l : Expr} {tl : TE} (pe : PE X l tl) : L2H.PIH X tg l (iListG X.K tl) := by
  refine ⟨fun pins s σ H R I h => thn (pe.run pins s σ H _ I h) fun v s1 ⟨x, H1, J, r1, a, e, ⟨xs, hq⟩, q⟩ => ?_⟩
  subst e
  cases r1
  obtain ⟨its, rv, p, hz⟩ := J.list hq
  refine wpAny_pyIter_list p.isList ⟨s1.heap.objs.size, [s1.heap.objs.size], _, _, H1, rfl, J.kept (t' := s1.toks) fun b o z => Heap.get?_push_of_some _ z, turn_listG a _, ⟨_, Heap.get?_push_size _ rfl, rfl, rfl⟩, fun b hb => ?_, q⟩
  cases List.mem_singleton.mp hb
  exact J.fpOk (Nat.le_refl _) (J.hok.fresh (Nat.le_refl _))
theorem pi_listGK {X : Cx} {K : PySem.W.Frag} {tg l : Expr} {tl : TE} (pe : PE X l tl) (hK : X.K = K := by rfl) : L2H.PIH X tg l (iListG K tl) := hK ▸ pi_listG pe
/-- the walk: Pv by the turn; the body leaves before the end -/
theorem for_listG {K : PySem.W.Frag} {a : Addr} {xs : List V} {g : TG} {tb : TS} {D : Ends} {σ : L2.St} {H : Hp} (Pv : Nat → L2.St → Hp → Prop) (h0 : Pv 0 σ H) (hl : ∀ i σ H, Pv i σ H → SqL K H a xs ∧ i < xs.length)
    (hs : ∀ i x σ H, xs[i]? = some x → Pv i σ H → g x σ H fun σ2 H2 => tb { D with nx := Pv (i + 1), ct := Pv (i + 1), bk := D.nx } σ2 H2) :
    ∃ W : Nat → Nat → L2.St → Hp → Prop, (∃ m, W 0 m σ H) ∧ ∀ i m σ H, W i m σ H →
      ((ItlG K a).stop i H ∧ D.nx σ H) ∨ ((ItlG K a).go i H ∧ ∃ N : L2.St → Hp → Prop, (∀ σ' H', N σ' H' → ∃ m', m' < m ∧ W (i + 1) m' σ' H') ∧ ∀ x H', (ItlG K a).yld i H x H' → g x σ H' fun σ2 H2 => tb { D with nx := N, ct := N, bk := D.nx } σ2 H2) := by
  refine ⟨fun i m σ H => m + i = xs.length ∧ Pv i σ H, ⟨xs.length, rfl, h0⟩, fun i m σ H ⟨em, p⟩ => .inr ?_⟩
  obtain ⟨sq, lt⟩ := hl i σ H p
  refine ⟨⟨xs, xs[i], sq, List.getElem?_eq_getElem lt⟩, Pv (i + 1), fun σ' H' p' => ⟨m - 1, by omega, by omega, p'⟩, fun x H' y => ?_⟩
  obtain ⟨rfl, hx⟩ := y
  exact hs i x σ _ (hx xs sq) p
end HL


namespace HL
open PySem PySem.Spec PyProof.Rows L2 LamX NdefX
/-! ### max(d, key = ..) of a locked dict whose keys are tuples -/
abbrev inX (X : Cx) : Cx := { X with A := X.A.in1 }
section
variable {X : Cx} {pins : List (Addr × Obj)} {σ : L2.St} {H : Hp} {s : Shared}
theorem into1 (I : Inv X pins σ H s) : Inv (inX X) pins σ H s :=
  ⟨⟨I.ok.mod, I.ok.kind, I.ok.glob, I.ok.blt, I.ok.above, I.ok.inj, I.ok.has, I.ok.cab, I.ok.hd, I.ok.frames, I.ok.stk, I.ok.exf, I.ok.bs, I.ok.bsz, I.ok.noex, I.ok.exfs, I.ok.funs, I.ok.frf⟩,
    I.os, I.bare, I.base, I.loc, I.cell, I.free, I.freeC, I.pin, I.hok, I.len⟩
theorem outof1 (I : Inv (inX X) pins σ H s) : Inv X pins σ H s :=
  ⟨⟨I.ok.mod, I.ok.kind, I.ok.glob, I.ok.blt, I.ok.above, I.ok.inj, I.ok.has, I.ok.cab, I.ok.hd, I.ok.frames, I.ok.stk, I.ok.exf, I.ok.bs, I.ok.bsz, I.ok.noex, I.ok.exfs, I.ok.funs, I.ok.frf⟩,
    I.os, I.bare, I.base, I.loc, I.cell, I.free, I.freeC, I.pin, I.hok, I.len⟩
end
/-- the i-th is the first of the greatest -/
def Best (n : Nat) (kf : Nat → Int) (i : Nat) : Prop := i < n ∧ ∀ j, j < n → kf j ≤ kf i ∧ (j < i → kf j < kf i)
section
variable {X : Cx} {pins : List (Addr × Obj)} {σ : L2.St} {H : Hp} {d it q S : Addr} {o : Obj} {es : Array DictEntry} {ep : Nat} {kvs : List (List L2.Key × V)} {kf : Nat → Int} {R : Result → Shared → Prop}
/-- what a call of the key tells -/
def KeyTells (X : Cx) (pins : List (Addr × Obj)) (σ : L2.St) (H : Hp) (q : Addr) (kvs : List (List L2.Key × V)) (kf : Nat → Int) : Prop :=
  ∀ (i : Nat) (k : List L2.Key) (v : V) (t : Addr) (pl : List (Addr × Obj)) (s : Shared), kvs[i]? = some (k, v) → H t = some (.tup (k.map kV)) → Inv (inX X) (pins ++ pl) σ H s →
    wpAny (model X.prog X.w) X.A.in1 (call (.ref q) [.ref t]) (fun u s' => (∃ tk, u = .int (kf i) tk) ∧ Inv (inX X) (pins ++ pl) σ H s') (fun _ _ => False) s
theorem pinTwo {s : Shared} {oS oI : Obj} (I : Inv (inX X) pins σ H s) (fS : FpOk X pins H S) (fI : FpOk X pins H it) (hS : s.heap.get? S = some oS) (hI : s.heap.get? it = some oI) (nS : ∀ v, oS.data ≠ .cell v) (nI : ∀ v, oI.data ≠ .cell v) :
    Inv (inX X) (pins ++ [(S, oS), (it, oI)]) σ H s := I.pins_of fun p hp => by
  rcases List.mem_append.mp hp with z | z
  · exact I.pin p (List.mem_append_right _ z)
  · rcases List.mem_cons.mp z with e | z
    · subst e
      exact ⟨hS, fS.1, fS.2.1, fS.2.2.1, nS⟩
    · have e := List.mem_singleton.mp z
      subst e
      exact ⟨hI, fI.1, fI.2.1, fI.2.2.1, nI⟩
theorem maxK_loop (hc : X.calm = true) (hd : H d = some (.frz o (.dT kvs))) (hdt : o.data = .dict es ep) (nSI : S ≠ it) (fS : FpOk X pins H S) (fI : FpOk X pins H it) (turn : KeyTells X pins σ H q kvs kf)
    (hR : ∀ (i : Nat) (k : List L2.Key) (v : V) (t : Addr) (s' : Shared), kvs[i]? = some (k, v) → H t = some (.tup (k.map kV)) → Best kvs.length kf i → Inv X pins σ H s' → R (.ok (.ret (.ref t))) s') :
    ∀ (r j i : Nat) (s : Shared) (k : List L2.Key) (v : V) (t : Addr) (tk : Tok) (c : Nat), kvs.length - (j + 1) = r → j + 1 ≤ kvs.length → Inv (inX X) pins σ H s → s.heap.get? S = some (seqObj "list" #[.ref t, .int (kf i) tk] c) →
      s.heap.IsKeyIter it d (j + 1) kvs.length ep → kvs[i]? = some (k, v) → H t = some (.tup (k.map kV)) → i ≤ j → (∀ j', j' ≤ j → kf j' ≤ kf i ∧ (j' < i → kf j' < kf i)) →
      codeAny (model X.prog X.w) X.A (.builtin "max.loop" ⟨[.ref it, .ref q, .ref S], []⟩) R s := by
  have nm : (toString "max" ++ toString ".loop" : String) = "max.loop" := by decide
  obtain ⟨gS0, gS1, gS2, gS3, gS4, gS5⟩ := fS
  obtain ⟨gI0, gI1, gI2, gI3, gI4, gI5⟩ := fI
  intro r
  induction r with
  | zero =>
    intro j i s k v t tk c hr hj I hS hit hk ht hij best
    have en : j + 1 = kvs.length := by omega
    obtain ⟨_, hgd, _, es', ep', hdt', hsz, _⟩ := I.frzT hd
    obtain ⟨rfl, rfl⟩ := dict_ep hdt hdt'
    refine codeAny_builtin PySem.F.entry_max_loop ?_
    rw [Around.under_plainId PySem.F.plain_max_loop _]
    show wpAny _ X.A.in1 (seqItems? (.ref S) >>= _) _ _ _
    refine wpAny_bind (wpAny_seqItems hS rfl ?_)
    show wpAny _ X.A.in1 (tryCatch (pyNext (.ref it)) _ >>= _) _ _ _
    refine wpAny_bind (wpAny_tryCatch (next_key_end (I.ok.hd hc) hit hgd hdt' hsz (by omega) fun h' eb => ?_))
    have I1 : Inv (inX X) pins σ H { s with heap := h' } := I.turned (t' := s.toks) (fun b ob hb e => eb b ob hb e) gI0 gI1 gI3 gI4 gI5
    have hS' : h'.get? S = some (seqObj "list" #[.ref t, .int (kf i) tk] c) := eb S _ nSI hS
    show wpAny _ X.A.in1 (updateSeq S (fun _ => #[]) >>= _) _ _ _
    refine wpAny_bind ?_
    refine wpAny_updateSeq (s := { s with heap := h' }) hS' rfl (wpAny_bind (wpAny_letGo (wpAny_pure ?_)))
    have sb := Heap.SameBut.update h' S (Obj.mapSeq fun _ => (#[] : Array Value))
    exact hR i k v t _ hk ht ⟨by omega, fun j' hj' => best j' (by omega)⟩ (outof1 (I1.turned (t' := s.toks) (fun b ob hb e => (sb.2 b hb).trans e) gS0 gS1 gS3 gS4 gS5))
  | succ r ih =>
    intro j i s k v t tk c hr hj I hS hit hk ht hij best
    have lt : j + 1 < kvs.length := by omega
    obtain ⟨_, hgd, _, es', ep', hdt', hsz, ent⟩ := I.frzT hd
    obtain ⟨rfl, rfl⟩ := dict_ep hdt hdt'
    obtain ⟨⟨k2, v2⟩, hk2⟩ : ∃ p, kvs[j + 1]? = some p := ⟨kvs[j + 1], List.getElem?_eq_getElem lt⟩
    obtain ⟨en, t2, hen, hkey, ht2⟩ := ent (j + 1) k2 v2 hk2
    refine codeAny_builtin PySem.F.entry_max_loop ?_
    rw [Around.under_plainId PySem.F.plain_max_loop _]
    show wpAny _ X.A.in1 (seqItems? (.ref S) >>= _) _ _ _
    refine wpAny_bind (wpAny_seqItems hS rfl ?_)
    show wpAny _ X.A.in1 (tryCatch (pyNext (.ref it)) _ >>= _) _ _ _
    refine wpAny_bind (wpAny_tryCatch (next_key_item hit hgd hdt' hsz hen fun h' st' sb => ?_))
    rw [hkey]
    have I1 : Inv (inX X) pins σ H { s with heap := h' } := I.turned (t' := s.toks) (fun b ob hb e => (sb.2 b hb).trans e) gI0 gI1 gI3 gI4 gI5
    have hS1 : h'.get? S = some (seqObj "list" #[.ref t, .int (kf i) tk] c) := (sb.2 S nSI).trans hS
    obtain ⟨oI, hoI, hoc, hod⟩ := id st'
    have I2 := pinTwo (s := { s with heap := h' }) I1 ⟨gS0, gS1, gS2, gS3, gS4, gS5⟩ ⟨gI0, gI1, gI2, gI3, gI4, gI5⟩ hS1 hoI (fun v z => nomatch z) (fun v z => by rw [hod] at z; cases z)
    show wpAny _ X.A.in1 (tryCatch (holding [.ref t2] (call (.ref q) [.ref t2])) _ >>= _) _ _ _
    refine wpAny_bind (wpAny_tryCatch (wpAny_holding (wpAny_mono (turn (j + 1) k2 v2 t2 _ _ hk2 ht2 I2) (fun u s2 hu => ?_) fun _ _ z => z.elim)))
    obtain ⟨⟨tk2, rfl⟩, I3⟩ := hu
    have pS := (I3.pin (S, _) (List.mem_append_right _ (List.mem_append_right _ List.mem_cons_self))).1
    have pI := (I3.pin (it, _) (List.mem_append_right _ (List.mem_append_right _ (List.mem_cons_of_mem _ List.mem_cons_self)))).1
    have I4 : Inv (inX X) pins σ H s2 := I3.unpinned
    have hit2 : s2.heap.IsKeyIter it d (j + 1 + 1) kvs.length _ := ⟨oI, pI, hoc, hod⟩
    show wpAny _ X.A.in1 (tryCatch (holding [.ref t2, .int (kf (j + 1)) tk2] (richCompare .Gt (.int (kf (j + 1)) tk2) (.int (kf i) tk) >>= _)) _ >>= _) _ _ _
    refine wpAny_bind (wpAny_tryCatch (wpAny_holding (wpAny_bind (CmpOf.ints_gt (prog := X.prog) (w := X.w) (A := X.A.in1) (P := fun i v => ∃ t, v = .int (kf i) t) kf (fun _ _ h => h) (j + 1) i _ _ _ _ _ ⟨tk2, rfl⟩ ⟨tk, rfl⟩ ?_))))
    refine wpAny_bind (wpAny_holding (wpAny_truthy_bool ?_))
    refine wpAny_bind (wpAny_letGo (wpAny_pure ?_))
    by_cases gr : kf (j + 1) > kf i
    · have sb2 := Heap.SameBut.update s2.heap S (Obj.mapSeq fun _ => #[Value.ref t2, .int (kf (j + 1)) tk2])
      have hS2 := get?_update_seq pS fun _ => #[Value.ref t2, .int (kf (j + 1)) tk2]
      simp only [gr, decide_true, if_true]
      refine wpAny_bind ?_
      refine wpAny_updateSeq pS rfl (wpAny_bind (wpAny_letGo ?_))
      rw [nm]
      refine wpAny_pure ⟨plainId_quiet PySem.F.plain_max_loop _, ih (j + 1) (j + 1) _ k2 v2 t2 tk2 _ (by omega) lt (I4.turned (t' := s2.toks) (fun b ob hb e => (sb2.2 b hb).trans e) gS0 gS1 gS3 gS4 gS5) hS2 ⟨oI, (sb2.2 it nSI.symm).trans pI, hoc, hod⟩ hk2 ht2 (Nat.le_refl _) fun j' hj' => ?_⟩
      by_cases e : j' = j + 1
      · subst e
        exact ⟨Int.le_refl _, fun z => absurd z (Nat.lt_irrefl _)⟩
      · have b1 := (best j' (by omega)).1
        exact ⟨by omega, fun _ => by omega⟩
    · simp only [gr, decide_false, Bool.false_eq_true, if_false]
      refine wpAny_bind (wpAny_letGo ?_)
      rw [nm]
      refine wpAny_pure ⟨plainId_quiet PySem.F.plain_max_loop _, ih (j + 1) i _ k v t tk c (by omega) lt I4 pS hit2 hk ht (by omega) fun j' hj' => ?_⟩
      by_cases e : j' = j + 1
      · subst e
        exact ⟨by omega, fun _ => by omega⟩
      · exact best j' (by omega)
theorem maxK_run {s : Shared} {E : Value → Shared → Prop} {Q : Value → Shared → Prop} (hc : X.calm = true) (hd : H d = some (.frz o (.dT kvs))) (I : Inv X pins σ H s) (ne : 0 < kvs.length) (turn : KeyTells X pins σ H q kvs kf)
    (hR : ∀ (i : Nat) (k : List L2.Key) (v : V) (t : Addr) (s' : Shared), kvs[i]? = some (k, v) → H t = some (.tup (k.map kV)) → Best kvs.length kf i → Inv X pins σ H s' → Q (.ref t) s') :
    wpAny (model X.prog X.w) X.A (call (.builtin "max") [.ref d] [(Str.ofString "key", .ref q)]) Q E s := by
  have nm : (toString "max" ++ toString ".loop" : String) = "max.loop" := by decide
  obtain ⟨hs, hgd, hx, es, ep, hdt, hsz, ent⟩ := I.frzT hd
  refine kmk_tree PySem.F.kind_max PySem.F.plain_max PySem.F.entry_max (kmk_max_key _ _) ?_
  show wpAny _ X.A.in1 (Builtin.Builtins.bindParams "max" ["key", "default"] 0 ⟨[], [(Str.ofString "key", .ref q)]⟩ >>= _) _ _ s
  refine wpAny_bind (wpAny_of_eq (show Builtin.Builtins.bindParams "max" ["key", "default"] 0 ⟨[], [(Str.ofString "key", .ref q)]⟩ = pure [some (.ref q), none] from rfl) (wpAny_bind (wpAny_pure ?_)))
  refine wpAny_bind (iter_keys hs hgd hx hdt ?_)
  refine wpAny_bind (wpAny_newList ?_ (Nat.zero_le _))
  rw [nm]
  refine wpAny_pure ⟨plainId_quiet PySem.F.plain_max_loop _, ?_⟩
  have J := into1 I
  have fr : ({ cls := .type "dict_keyiterator", data := .fields #[.ref d, .int 0 0, .int es.size 0, .int ep 0] } : Obj).isFreed = false := rfl
  generalize hI : ({ cls := .type "dict_keyiterator", data := .fields #[.ref d, .int 0 0, .int es.size 0, .int ep 0] } : Obj) = oI at fr ⊢
  have sz1 : (s.heap.push oI).objs.size = s.heap.objs.size + 1 := size_push' ..
  have gI : ((s.heap.push oI).push (seqObj "list" #[] 0)).get? s.heap.objs.size = some oI := Heap.get?_push_of_some _ (Heap.get?_push_size _ fr)
  have gS : ((s.heap.push oI).push (seqObj "list" #[] 0)).get? (s.heap.push oI).objs.size = some (seqObj "list" #[] 0) := Heap.get?_push_size _ rfl
  have kp : ∀ b u, s.heap.get? b = some u → ((s.heap.push oI).push (seqObj "list" #[] 0)).get? b = some u := fun b u e => Heap.get?_push_of_some _ (Heap.get?_push_of_some _ e)
  have I1 : Inv (inX X) pins σ H { s with heap := (s.heap.push oI).push (seqObj "list" #[] 0) } := J.kept (t' := s.toks) kp
  have fI : FpOk (inX X) pins H s.heap.objs.size := J.fpOk (Nat.le_refl _) (J.hok.fresh (Nat.le_refl _))
  have fS : FpOk (inX X) pins H (s.heap.push oI).objs.size := J.fpOk (by rw [sz1]; exact Nat.le_succ _) (J.hok.fresh (by rw [sz1]; exact Nat.le_succ _))
  have nSI : (s.heap.push oI).objs.size ≠ s.heap.objs.size := by rw [sz1]; exact Nat.succ_ne_self _
  have hit : ((s.heap.push oI).push (seqObj "list" #[] 0)).IsKeyIter s.heap.objs.size d 0 kvs.length ep := ⟨oI, gI, by rw [← hI], by rw [← hI, ← hsz]; rfl⟩
  generalize (s.heap.push oI).objs.size = S at gS fS nSI
  generalize s.heap.objs.size = it at gI fI nSI hit
  generalize (s.heap.push oI).push (seqObj "list" #[] 0) = h1 at gS gI I1 hit
  obtain ⟨⟨k2, v2⟩, hk2⟩ : ∃ p, kvs[0]? = some p := ⟨kvs[0], List.getElem?_eq_getElem ne⟩
  obtain ⟨en, t2, hen, hkey, ht2⟩ := ent 0 k2 v2 hk2
  have hgd1 : h1.get? d = some o := by
    obtain ⟨_, z, _⟩ := I1.frzT hd
    exact z
  obtain ⟨gS0, gS1, gS2, gS3, gS4, gS5⟩ := id fS
  obtain ⟨gI0, gI1, gI2, gI3, gI4, gI5⟩ := id fI
  refine codeAny_builtin PySem.F.entry_max_loop ?_
  rw [Around.under_plainId PySem.F.plain_max_loop _]
  show wpAny _ X.A.in1 (seqItems? (.ref S) >>= _) _ _ _
  refine wpAny_bind (wpAny_seqItems (s := { s with heap := h1 }) gS rfl ?_)
  show wpAny _ X.A.in1 (tryCatch (pyNext (.ref it)) _ >>= _) _ _ _
  refine wpAny_bind (wpAny_tryCatch (next_key_item (s := { s with heap := h1 }) hit hgd1 hdt hsz hen fun h' st' sb => ?_))
  rw [hkey]
  have I2 : Inv (inX X) pins σ H { s with heap := h' } := I1.turned (t' := s.toks) (fun b ob hb e => (sb.2 b hb).trans e) gI0 gI1 gI3 gI4 gI5
  have hS1 : h'.get? S = some (seqObj "list" #[] 0) := (sb.2 S nSI).trans gS
  obtain ⟨oI', hoI, hoc, hod⟩ := id st'
  have I3 := pinTwo (s := { s with heap := h' }) I2 fS fI hS1 hoI (fun v z => nomatch z) (fun v z => by rw [hod] at z; cases z)
  show wpAny _ X.A.in1 (tryCatch (holding [.ref t2] (call (.ref q) [.ref t2])) _ >>= _) _ _ _
  refine wpAny_bind (wpAny_tryCatch (wpAny_holding (wpAny_mono (turn 0 k2 v2 t2 _ _ hk2 ht2 I3) (fun u s2 hu => ?_) fun _ _ z => z.elim)))
  obtain ⟨⟨tk2, rfl⟩, I4⟩ := hu
  have pS := (I4.pin (S, _) (List.mem_append_right _ (List.mem_append_right _ List.mem_cons_self))).1
  have pI := (I4.pin (it, _) (List.mem_append_right _ (List.mem_append_right _ (List.mem_cons_of_mem _ List.mem_cons_self)))).1
  have I5 : Inv (inX X) pins σ H s2 := I4.unpinned
  have sb2 := Heap.SameBut.update s2.heap S (Obj.mapSeq fun _ => #[Value.ref t2, .int (kf 0) tk2])
  have hS2 := get?_update_seq pS fun _ => #[Value.ref t2, .int (kf 0) tk2]
  show wpAny _ X.A.in1 (updateSeq S (fun _ => #[.ref t2, .int (kf 0) tk2]) >>= _) _ _ _
  refine wpAny_bind ?_
  refine wpAny_updateSeq pS rfl ?_
  rw [nm]
  exact wpAny_pure ⟨plainId_quiet PySem.F.plain_max_loop _, maxK_loop hc hd hdt nSI fS fI turn hR _ 0 0 _ k2 v2 t2 tk2 _ rfl ne (I5.turned (t' := s2.toks) (fun b ob hb e => (sb2.2 b hb).trans e) gS0 gS1 gS3 gS4 gS5) hS2 ⟨oI', (sb2.2 it nSI.symm).trans pI, hoc, hod⟩ hk2 ht2 (Nat.le_refl _) fun j' hj' => by
    have e : j' = 0 := by omega
    subst e
    exact ⟨Int.le_refl _, fun z => absurd z (Nat.lt_irrefl _)⟩⟩
end
/-! ### a lambda with parameters and captured names -/
/-- its words, as a nested def's -/
abbrev lamF (q : Str) (params : Arguments) (scope : Scope) (cl : List (Str × Addr)) (c : Addr) : NF := ⟨"<lambda>", q, params, [], scope, cl, c⟩
theorem lam_run {P : Program} {w : World} {K : PySem.W.Frag} {mg : Str → Option Value} {base : Heap} {N ps fr : List Str} {q : Str} {params : Arguments} {body : Expr} {scope : Scope} {cl : List (Str × Addr)} {f c : Addr} {pm ctv : Value} {k : Nat} {A : Around} {outer : List Env} {s : Shared} {H : Hp}
    {us : List Value} {vs : List V} {ws : List (Option V)} {tb : TE} {Q : VK} {E : XK} (S : NScope N ps fr scope) (hb : bindArgs (PySem.W.kla_fn "<lambda>" q params body scope cl pm (.ref c) ctv) ⟨us, []⟩ = pure (ps.zip us)) (hr : Room (k + 1) A) (e0 : Env0 P w K mg base A outer s H)
    (hf : s.heap.get? f = some (PySem.W.kla_obj "<lambda>" q params body scope cl pm c ctv)) (hc : H c = some (CodeO c q)) (C : CellsAt cl fr ws s.heap H) (r : Vals vs us) (hl : vs.length = ps.length)
    (hbody : Room k (A.deeper (envF (lamF q params scope cl c) f s.heap.objs.size)) → PE (ncx L2.CX0 P w K mg base N (lamF q params scope cl c) f A outer s H E) body tb) (ht : tb (startF N vs ws) H Q) :
    codeAny (model P w) A (.call (.ref f) ⟨us, []⟩) (CR L2.CX0 outer P w H s Q E) s := by
  have lim : s.heap.NoLimit := e0.mod.nolimit.keeps fun b o e => (e0.bs b o e).1
  refine PySem.W.kla_callFunE hr.depth hf rfl S.co S.gen rfl (codeO_at e0.hok hc) ?_
  rw [hb]
  refine wpAny_pure (wpAny_newFunctionEnv S.nocell (fun ⟨n, _⟩ hy => S.par n (List.of_mem_zip hy).1) (fun h₁ hns hsb => ⟨lim.fresh _ hsb, ?_⟩) S.kind)
  show codeAny _ _ (.expr body (envF (lamF q params scope cl c) f s.heap.objs.size)) _ _
  have keep1 : ∀ b o, s.heap.get? b = some o → h₁.get? b = some o := fun b o e => hsb.extBut b o (Nat.ne_of_lt (Heap.lt_size e)) (Heap.get?_push_of_some _ e)
  have I : Inv (ncx L2.CX0 P w K mg base N (lamF q params scope cl c) f A outer s H E) [] (startF N vs ws) H { s with heap := h₁, toks := s.toks + (ps.zip us).length } := inv_startN (F := lamF q params scope cl c) S hr.hd e0 hl r C hns keep1
  refine PySem.W.kla_codeExpr (wpAny_mono ((hbody (hr.deeper _)).run [] _ _ H Q I ht) (fun u s' z => ?_) fun e s' z => z)
  obtain ⟨y, H', J, ry, z⟩ := z
  exact ⟨y, H', J.os, J.bare, J.base, J.hok, ry, z⟩
/-- the reading of max(d, key = lambda x: body): js, where the captured names stand among the frame's -/
def tMaxL (T : List (Addr × Str)) (NL : List Str) (js : List Nat) (td tb : TE) : TE := fun σ H Q => td σ H fun x H1 => Tabs T H1 ∧ ∀ H2, ExtN H1 H2 → Tabs T H2 → ∃ (d : Addr) (o : Obj) (kvs : List (List L2.Key × V)) (kf : Nat → Int), x = .ref d ∧ H2 d = some (.frz o (.dT kvs)) ∧ 0 < kvs.length ∧
  (∀ (i : Nat) (k : List L2.Key) (v : V) (t : Addr), kvs[i]? = some (k, v) → H2 t = some (.tup (k.map kV)) → tb (startF NL [.ref t] (js.map (slotAt σ))) H2 fun y H3 => y = .int (kf i) ∧ H3 = H2) ∧
  ∀ (i : Nat) (k : List L2.Key) (v : V) (t : Addr), kvs[i]? = some (k, v) → H2 t = some (.tup (k.map kV)) → Best kvs.length kf i → Q (.ref t) H2
theorem X_stk {X : Cx} {pins : List (Addr × Obj)} {σ : L2.St} {H : Hp} {s : Shared} (I : Inv X pins σ H s) : X.stack = X.outer ∨ X.stack = X.env :: X.outer := I.ok.stk.elim .inl fun z => .inr z.1
theorem pe_maxL {X : Cx} {T : List (Addr × Str)} {c P : Addr} {NL fr : List Str} {a : Str} {js : List Nat} {params : Arguments} {body : Expr} {scope : Scope} {lpos kpos p pos : Pos} {e : Expr} {td tb : TE} {k : Nat} (hc : X.calm = true) (hg : Gl X "max") (hm : X.mg "max" = none) (he : PE X e td)
    (TB : TabB X.base X.mg c P) (hcode : X.env.code = .ref c) (hmT : (P, X.env.qual ++ "<lambda>") ∈ T) (hu : ∀ p ∈ T, p.1 = P → p.2 = X.env.qual ++ "<lambda>") (hr : Room (k + 2) X.A) (hdef : defaultsOf params X.env = ([], []))
    (hfree : ∀ y ∈ scope.names, y.2 = .free → X.env.scope.names.lookup y.1 = some .cell ∨ X.env.scope.names.lookup y.1 = some .free) (hfr : ∀ y ∈ fr, (y, NameKind.free) ∈ scope.names) (hjs : js.map (fun j => X.N[j]?) = fr.map some) (S : NScope NL [a] fr scope)
    (hb : ∀ (q : Str) (cl : List (Str × Addr)) (pm cv ctv u : Value), bindArgs (PySem.W.kla_fn "<lambda>" q params body scope cl pm cv ctv) ⟨[u], []⟩ = pure [(a, u)])
    (hbody : ∀ (A : Around) (outer : List Env) (s : Shared) (H : Hp) (E : XK) (q : Str) (cl : List (Str × Addr)) (f c : Addr), Room k (A.deeper (envF (lamF q params scope cl c) f s.heap.objs.size)) → PE (ncx L2.CX0 X.prog X.w X.K X.mg X.base NL (lamF q params scope cl c) f A outer s H E) body tb)
    (hst : backTo pos (starEach [e] X.env) = (false, eval e X.env) :: backTo pos (starEach [] X.env) := by rfl) (hpl : (backTo pos (starEach [e] X.env)).any (·.1) = false := by rfl) :
    PE X (.Call (.Name "max" p) [e] [⟨some "key", .Lambda params body scope lpos, kpos⟩] pos) (tMaxL T NL js td tb) := by
  refine ⟨fun pins s σ H Q I h => ?_⟩
  have hfr2 : ∀ y ∈ scope.names, y.2 = .free → ∃ c, X.env.cells.lookup y.1 = some c := fun y hy z => (hfree y hy z).elim (fun z => I.ok.has _ (.inl z)) fun z => I.ok.has _ (.inr z)
  refine wpAny_Call_Name_kw (ld_blt I hg hm boot_max ?_ (by decide) (by decide))
  refine PyProof.Rows.callWith_kw ?_ hst hpl (by rfl) (by rfl)
  rw [hst]
  show wpAny _ _ (spliced ((false, eval e X.env) :: backTo pos (starEach [] X.env))) _ _ s
  refine Calls.spliced_cons (thn (he.run pins s σ H _ I h) fun u s1 ⟨x, H1, I1, r1, hT, q1⟩ => Calls.spliced_nil ?_)
  show wpAny _ _ (evalAll ((do let v ← eval (.Lambda params body scope lpos) X.env; standAt pos; pure v) :: (backToKw pos (keywordEach [] X.env)).map (·.2))) _ _ s1
  refine wpAny_evalAll_cons (wpAny_bind (lam_make2 I1 TB hcode hmT hu hT hdef hfr2 fun f c' pm ctv H2 s2 I2 eN T2 hf hfn hfs hco => wpAny_bind (wpAny_standAt (wpAny_pure (wpAny_evalAll_nil ?_)))))
  obtain ⟨d, o, kvs, kf, rfl, hd, ne, tell, fin⟩ := q1 H2 eN T2
  have eu : u = Value.ref d := r1
  subst eu
  show wpAny _ _ (call (.builtin "max") [.ref d] [(Str.ofString "key", .ref f)]) _ _ _
  have nfs : f ∉ X.fs := fun z => hfs (by
    rcases X_stk I2 with e | e
    · rw [e]
      exact z
    · rw [e]
      show f ∈ List.filterMap _ (X.env :: X.outer)
      rw [List.filterMap_cons]
      split
      · exact z
      · exact List.mem_cons_of_mem _ z)
  have nfl : f ≠ X.env.locals := fun z => by
    obtain ⟨m, ⟨ob, es, ep, ho, hdd, _⟩, _⟩ := I2.loc
    rw [← z, hf] at ho
    cases ho
    cases hdd
  have IP : Inv X (pins ++ [(f, PySem.W.kla_obj "<lambda>" (X.env.qual ++ "<lambda>") params body scope (cloFrom X.env.cells scope.names []) pm c' ctv)]) σ H2 s2 := I2.pins_of fun p hp => by
    rcases List.mem_append.mp hp with z | z
    · exact I2.pin p (List.mem_append_right _ z)
    · have e := List.mem_singleton.mp z
      subst e
      exact ⟨hf, hfn, nfl, nfs, fun v z => nomatch z⟩
  refine maxK_run hc hd IP ne (fun i k v t pl s3 hk ht I3 => ?_) fun i k v t s3 hk ht best I3 => ⟨.ref t, H2, I3.unpinned, rfl, fin i k v t hk ht best⟩
  have hf3 := (I3.pin (f, _) (List.mem_append_right _ (List.mem_append_left _ (List.mem_append_right _ List.mem_cons_self)))).1
  have cp : Caps (inX X) (cloFrom X.env.cells scope.names []) fr js := Caps.made I3.ok hfree hfr hjs
  have rc : codeAny (model X.prog X.w) X.A.in1 (.call (.ref f) ⟨[.ref t], []⟩) (CR L2.CX0 X.stack X.prog X.w H2 s3 (fun y H3 => y = .int (kf i) ∧ H3 = H2) E0) s3 :=
    lam_run (us := [.ref t]) (vs := [.ref t]) (ps := [a]) S (hb _ _ _ _ _ _) hr.in1 I3.env0 hf3 hco (cells_of I3 cp) (.cons rfl .nil) rfl (hbody _ _ _ _ _ _ _ _ _) (tell i k v t hk ht)
  refine wpAny_call (codeAny_mono rc fun r s4 hq => ?_)
  cases r with
  | error e => exact False.elim hq
  | ok fl =>
    cases fl with
    | ret y =>
      obtain ⟨z, H3, J, rz, rfl, rfl⟩ := I3.after hq
      obtain ⟨tk, rfl⟩ := rz
      exact ⟨⟨tk, rfl⟩, J⟩
    | next => exact False.elim hq
    | brk => exact False.elim hq
    | cont => exact False.elim hq
/-! ### min(xs), xs a list of tuples of ints -/
theorem lex_irr : ∀ a : List Int, HT.lexLt a a = false
  | [] => rfl
  | x :: a => by
    rw [HT.lexLt_cons, if_pos rfl]
    exact lex_irr a
theorem lex_trans : ∀ {a b c : List Int}, HT.lexLt a b = true → HT.lexLt b c = true → HT.lexLt a c = true
  | [], [], _, h, _ => nomatch h
  | [], _ :: _, [], _, h => nomatch h
  | [], _ :: _, _ :: _, _, _ => rfl
  | _ :: _, [], _, h, _ => nomatch h
  | _ :: _, _ :: _, [], _, h => nomatch h
  | x :: a, y :: b, z :: c, h, h' => by
    rw [HT.lexLt_cons] at h h' ⊢
    by_cases e1 : x = y
    · subst e1
      rw [if_pos rfl] at h
      by_cases e2 : x = z
      · rw [if_pos e2] at h' ⊢
        exact lex_trans h h'
      · rw [if_neg e2] at h' ⊢
        exact h'
    · rw [if_neg e1] at h
      have l1 := of_decide_eq_true h
      by_cases e2 : y = z
      · subst e2
        rw [if_neg e1]
        exact h
      · rw [if_neg e2] at h'
        have l2 := of_decide_eq_true h'
        rw [if_neg (by omega)]
        exact decide_eq_true (by omega)
theorem best_lex (f : Nat → List Int) : ∀ k, argBest (fun i j => HT.lexLt (f i) (f j)) k ≤ k ∧ ∀ j, j ≤ k → HT.lexLt (f j) (f (argBest (fun i j => HT.lexLt (f i) (f j)) k)) = false
  | 0 => ⟨Nat.le_refl _, fun j hj => by
    have e : j = 0 := by omega
    subst e
    exact lex_irr _⟩
  | k + 1 => by
    obtain ⟨h1, h2⟩ := best_lex f k
    by_cases c : HT.lexLt (f (k + 1)) (f (argBest (fun i j => HT.lexLt (f i) (f j)) k)) = true
    · have e : argBest (fun i j => HT.lexLt (f i) (f j)) (k + 1) = k + 1 := if_pos c
      rw [e]
      refine ⟨Nat.le_refl _, fun j hj => ?_⟩
      by_cases ej : j = k + 1
      · subst ej
        exact lex_irr _
      · refine Bool.eq_false_iff.mpr fun z => ?_
        have := lex_trans z c
        rw [h2 j (by omega)] at this
        cases this
    · have e : argBest (fun i j => HT.lexLt (f i) (f j)) (k + 1) = argBest (fun i j => HT.lexLt (f i) (f j)) k := if_neg c
      rw [e]
      refine ⟨by omega, fun j hj => ?_⟩
      by_cases ej : j = k + 1
      · subst ej
        exact Bool.eq_false_iff.mpr c
      · exact h2 j (by omega)
def rMinTup (K : PySem.W.Frag) : List V → Hp → VK → Prop := fun vs H Q => ∃ (a : Addr) (ts : List Addr) (rs : List (List Int)), vs = [V.ref a] ∧ SqL K H a (ts.map V.ref) ∧ 0 < ts.length ∧ ts.length = rs.length ∧
  (∀ (i : Nat) (t : Addr) (r : List Int), ts[i]? = some t → rs[i]? = some r → SqT K H t (r.map V.int)) ∧
  ∀ (i : Nat) (t : Addr) (r : List Int), ts[i]? = some t → rs[i]? = some r → (∀ r' ∈ rs, HT.lexLt r' r = false) → Q (.ref t) H
theorem cr_minTup {X : Cx} (hc : X.calm = true) (hu : X.A.units + 1 < cLine) : CallR X (.builtin "min") (rMinTup X.K) := by
  intro pins s σ H vs us Q I r h
  obtain ⟨a, ts, rs, rfl, hs, ne, len, tu, q⟩ := h
  obtain ⟨its, rv, hl, _⟩ := I.list hs
  rw [Vals.ref1 r]
  have il : its.length = ts.length := by
    have := rv.length
    rw [List.length_map] at this
    omega
  have at_ : ∀ {i : Nat} {v : Value}, its.toArray[i]? = some v → ∃ t r, ts[i]? = some t ∧ rs[i]? = some r ∧ v = .ref t ∧ rs.getD i [] = r := fun {i v} hv => by
    have hv' : its[i]? = some v := by simpa using hv
    have hi : i < ts.length := by
      have := (List.getElem?_eq_some_iff.mp hv').1
      omega
    obtain ⟨u, hu, ru⟩ := rv.get (i := i) (x := .ref ts[i]) (by rw [List.getElem?_map, List.getElem?_eq_getElem hi]; rfl)
    have e : u = v := Option.some.inj (hu.symm.trans hv')
    subst e
    have hr := List.getElem?_eq_getElem (l := rs) (i := i) (by omega)
    exact ⟨ts[i], rs[i], List.getElem?_eq_getElem hi, hr, ru, by rw [List.getD_eq_getElem?_getD, hr]; rfl⟩
  refine PySem.call_min_walkH (PySem.W.iter_listW (A := X.A.in1) (I.ok.hd hc) hl.isList fun s₂ e W st hfp hw hk => ?_)
  refine ⟨_, _, _, _, _, _, _, s.heap, fun i j => HT.lexLt (rs.getD i []) (rs.getD j []), rfl, W, st, hfp, by simpa using (show 0 < its.length by omega), hw, hk, fun i j vi vj s' Q' E' keep hi hj hq => ?_, fun v s' hP m => ?_⟩
  · obtain ⟨t1, r1, a1, a2, rfl, a4⟩ := at_ hi
    obtain ⟨t2, r2, b1, b2, rfl, b4⟩ := at_ hj
    obtain ⟨c1, d1, p1, _⟩ := I.tuple (tu i t1 r1 a1 a2)
    obtain ⟨c2, d2, p2, _⟩ := I.tuple (tu j t2 r2 b1 b2)
    have up : ∀ {b : Addr} {x : Array Value}, IsTup s.heap b x → IsTup s'.heap b x := fun ⟨ob, ho, z⟩ => ⟨ob, keep _ _ ho, z⟩
    show wpAny _ _ (compareOp .Lt _ _) _ _ _
    refine HT.lt_tupInts (up p1) (up p2) (intsAre_of d1) (intsAre_of d2) hu ?_
    have hq2 : Q' (Value.bool (HT.lexLt (rs.getD i []) (rs.getD j []))) s' := hq
    rw [a4, b4] at hq2
    exact hq2
  · obtain ⟨h', tk, rfl, hk'⟩ := PySem.W.moved_old e rfl m
    obtain ⟨t1, r1, a1, a2, rfl, a4⟩ := at_ hP
    obtain ⟨b1, b2⟩ := best_lex (fun i => rs.getD i []) (its.toArray.size - 1)
    refine ⟨.ref t1, H, I.kept (t' := tk) hk', rfl, q _ t1 r1 a1 a2 fun r' hr' => ?_⟩
    obtain ⟨j, hj, ej⟩ := List.mem_iff_getElem.mp hr'
    have := b2 j (by
      have : its.toArray.size = its.length := List.size_toArray ..
      omega)
    rw [show rs.getD j [] = r' by rw [List.getD_eq_getElem?_getD, List.getElem?_eq_getElem hj, ej]; rfl] at this
    exact a4 ▸ this
/-! ### a def that makes a lambda: its code object is known -/
theorem okNC {P : Program} {w : World} {K : PySem.W.Frag} {mg : Str → Option Value} {base : Heap} {x qual : Str} {st : Stmt} {f c : Addr} {fd : FuncData} {N ps : List Str} {k : Nat} {sp : Sp} (hc : fd.code = .ref c) (F : Fun K x qual st f fd) (S : FnScope N ps (defScope st))
    (len : ∀ vs H Q E, sp vs H Q E → vs.length = ps.length)
    (hb : ∀ (A : Around) (outer : List Env) (s : Shared) (H : Hp) (vs : List V) (Q : VK) (E : XK), Room k (A.deeper (envOfC qual (defScope st) s.heap.objs.size f (.ref c))) → sp vs H Q E →
      ∃ t, PSs (cxOf (L2N.CX P w) P w K mg base N qual (defScope st) f (.ref c) A outer s H E) (defBody st) t ∧ t { nx := fun _ H' => Q .non H', rt := Q } (start N vs) H) :
    FnOk P w K mg base (L2N.CX P w) (k + 1) f fd ps sp := by
  obtain ⟨oc, od, kV, doc, pm, an, cdv, ct, osl, rfl, lk, hcd⟩ := F.ex
  have e : cdv = .ref c := hc
  subst e
  exact fn_of lk hcd S len fun A outer s H vs Q E hr h => hb A outer s H vs Q E hr h
theorem one1 {α : Type} {Pp : α → Prop} {a : α} (h : Pp a) : ∀ p ∈ [a], Pp p := fun p hp => by
  rw [List.mem_singleton.mp hp]
  exact h
/-- the one table, of the def x -/
def lamT (x : Str) (P : Addr) : List (Addr × Str) := [(P, x ++ ".<locals>." ++ "<lambda>")]
theorem lamT_mem {x q : Str} {P : Addr} (e : q = x ++ ".<locals>." ++ "<lambda>") : (P, q) ∈ lamT x P := by
  rw [e]
  exact List.mem_cons_self
theorem lamT_one {x q : Str} {P : Addr} (e : q = x ++ ".<locals>." ++ "<lambda>") : ∀ p ∈ lamT x P, p.1 = P → p.2 = q := fun p hp _ => by
  rw [List.mem_singleton.mp hp, e]
/-- a store to what is no table and no code object leaves the tables -/
theorem tabs_wr {T : List (Addr × Str)} {H : Hp} {d : Addr} {o o' : HO} (h : Tabs T H) (hd : H d = some o) (nt : ∀ ps, o ≠ .tbl ps) (nc : ∀ c q, o ≠ CodeO c q) : Tabs T (upd H d o') := fun p hp => by
  obtain ⟨ps, h1, h2, h3⟩ := h p hp
  refine ⟨ps, (upd_ne (ne_of h1 hd fun e => nt _ e.symm)).trans h1, h2, fun pos cv hc => ?_⟩
  obtain ⟨c, e1, e2⟩ := h3 pos cv hc
  exact ⟨c, e1, (upd_ne (ne_of e2 hd fun e => nc _ _ e.symm)).trans e2⟩
theorem same_extN {H H' : Hp} (s : Same H H') : ExtN H H' := ExtN.of s
theorem tabs_same {T : List (Addr × Str)} {H H' : Hp} (t : Tabs T H) (s : Same H H') : Tabs T H' := t.ext s
theorem extN_unlock {H H' : Hp} {d : Addr} {u : HO} {o : Obj} (e : H d = some u) (x : ExtN (upd H d (.frz o u)) H') : ExtN H (upd H' d u) := fun b z hb nt => by
  by_cases c : b = d
  · subst c
    rw [upd_same]
    exact e.symm.trans hb
  · rw [upd_ne c]
    exact x b z ((upd_ne c).trans hb) nt
end HL
namespace HR
open PySem PySem.Spec PyProof.Rows L2 HL LamX
theorem WayAt.onN {H H' : Hp} {w : Addr} {m : Int} {r : List Int} (h : WayAt H w m r) (e : ExtN H H') : WayAt H' w m r := by
  obtain ⟨ps, h1, h2, h3⟩ := h
  refine ⟨ps, e _ _ h1 (fun _ z => nomatch z), h2, fun j p k a b => ?_⟩
  obtain ⟨q, x, y⟩ := h3 j p k a b
  exact ⟨q, e _ _ x (fun _ z => nomatch z), e _ _ y (fun _ z => nomatch z)⟩
theorem WaysOf.onN {H H' : Hp} {m : Int} {kvs : List (List L2.Key × V)} {rs : List (List Int)} (h : WaysOf H m kvs rs) (e : ExtN H H') : WaysOf H' m kvs rs := ⟨h.1, fun r hr => by
  obtain ⟨w, a, b⟩ := h.2 r hr
  exact ⟨w, a, b.onN e⟩⟩
end HR


namespace HR
open PySem PySem.Spec PyProof.Rows L2 HL
/-! ### heights -/
def hgt (m : Int) (t : Nat) (r : List Int) : Nat := (known m t r).getD 0
theorem known_hgt {m : Int} {t : Nat} {r : List Int} (h : known m t r ≠ none) : known m t r = some (hgt m t r) := by
  unfold hgt
  cases e : known m t r with
  | none => exact absurd e h
  | some x => rfl
theorem hgt_of {m : Int} {t : Nat} {r : List Int} {h : Nat} (e : known m t r = some h) : hgt m t r = h := by
  unfold hgt
  rw [e]
  rfl
theorem known_healed' {m : Int} {r : List Int} : ∀ {t : Nat}, known m t r = some 0 → (able r).length = 1
  | 0, h => by
    rw [known_zero] at h
    by_cases c : (able r).length = 1
    · exact c
    · rw [if_neg c] at h
      cases h
  | t + 1, h => by
    cases e : known m t r with
    | some x =>
      rw [known_keep e] at h
      rw [Option.some.inj h] at e
      exact known_healed' e
    | none =>
      rw [known_new e] at h
      split at h
      · have := Option.some.inj h
        omega
      · cases h
theorem fold_mem : ∀ l : List Nat, l ≠ [] → l.foldr max 0 ∈ l
  | [], h => absurd rfl h
  | [a], _ => by
    show max a 0 ∈ [a]
    rw [Nat.max_eq_left (Nat.zero_le _)]
    exact List.mem_singleton.mpr rfl
  | a :: b :: l, _ => by
    have ih := fold_mem (b :: l) (fun z => nomatch z)
    show max a ((b :: l).foldr max 0) ∈ a :: b :: l
    rcases Nat.le_total a ((b :: l).foldr max 0) with c | c
    · rw [Nat.max_eq_right c]
      exact List.mem_cons_of_mem _ ih
    · rw [Nat.max_eq_left c]
      exact List.mem_cons_self
/-- from a height above nought a step leads one down -/
theorem known_down {m : Int} {r : List Int} {h : Nat} (ne : able r ≠ []) : ∀ {t : Nat}, known m t r = some (h + 1) → ∃ k ∈ able r, known m t (step m r k) = some h
  | 0, e => by
    rw [known_zero] at e
    split at e
    · cases e
    · cases e
  | t + 1, e => by
    cases e0 : known m t r with
    | some x =>
      rw [known_keep e0] at e
      rw [Option.some.inj e] at e0
      obtain ⟨k, h1, h2⟩ := known_down ne e0
      exact ⟨k, h1, known_keep h2⟩
    | none =>
      rw [known_new e0] at e
      split at e
      · rename_i all
        have e1 := Option.some.inj e
        have mem := fold_mem ((stepsOf m r).map fun q => (known m t q).getD 0) (fun z => ne (by
          unfold stepsOf at z
          rw [List.map_map] at z
          exact List.map_eq_nil_iff.mp z))
        rw [show ((stepsOf m r).map fun q => (known m t q).getD 0).foldr max 0 = h by omega] at mem
        obtain ⟨q, hq, eq⟩ := List.mem_map.mp mem
        obtain ⟨k, hk, rfl⟩ := List.mem_map.mp hq
        have iss := List.all_eq_true.mp all _ hq
        refine ⟨k, hk, known_keep ?_⟩
        obtain ⟨y, ey⟩ := Option.isSome_iff_exists.mp iss
        rw [ey] at eq
        have : y = h := eq
        rw [ey, this]
      · cases e
/-- the first machine that keeps to a longest order -/
def topK (m : Int) (t : Nat) (r : List Int) : Nat := ((able r).find? fun k => decide (known m t (step m r k) = some (hgt m t r - 1))).getD 0
def ringT (m : Int) (t : Nat) (r : List Int) : Nat → List Int
  | 0 => r
  | i + 1 => step m (ringT m t r i) (topK m t (ringT m t r i))
def orderT (m : Int) (t : Nat) (r : List Int) (i : Nat) : List Nat := (List.range i).map fun j => topK m t (ringT m t r j)
theorem orderT_len (m : Int) (t : Nat) (r : List Int) (i : Nat) : (orderT m t r i).length = i := by unfold orderT; rw [List.length_map, List.length_range]
theorem orderT_succ (m : Int) (t : Nat) (r : List Int) (i : Nat) : orderT m t r (i + 1) = orderT m t r i ++ [topK m t (ringT m t r i)] := range_map_succ _ i
theorem orderT_at {m : Int} {t : Nat} {r : List Int} {i h : Nat} (hi : i < h) : (orderT m t r h)[i]? = some (topK m t (ringT m t r i)) := by
  unfold orderT
  rw [List.getElem?_map, List.getElem?_range hi]
  rfl
theorem top_ok {m : Int} {t h : Nat} {r : List Int} (ne : able r ≠ []) (e : known m t r = some (h + 1)) :
    (able r).find? (fun k => decide (known m t (step m r k) = some h)) = some (topK m t r) ∧ topK m t r ∈ able r ∧ known m t (step m r (topK m t r)) = some h := by
  have eh : hgt m t r - 1 = h := by rw [hgt_of e]; rfl
  obtain ⟨k, h1, h2⟩ := known_down ne e
  cases ef : (able r).find? (fun k => decide (known m t (step m r k) = some h)) with
  | none =>
    have := List.find?_eq_none.mp ef k h1
    rw [h2] at this
    simp at this
  | some k' =>
    have et : topK m t r = k' := by
      unfold topK
      rw [eh, ef]
      rfl
    rw [et]
    have z := List.find?_some ef
    exact ⟨rfl, List.mem_of_find?_eq_some ef, of_decide_eq_true z⟩
section
variable {m n : Nat} (n2 : 2 ≤ n) (n12 : n ≤ 12) (m2 : 2 ≤ m) (m100 : m ≤ 100)
include n2 n12 m2 m100
theorem able_neR {r : List Int} (hr : r ∈ allR m n) : able r ≠ [] := fun e => by
  have := able_pos (r := r) (by rw [(mem_allR.mp hr).1]; omega)
  rw [e] at this
  cases this
theorem ringT_ok {t h : Nat} {r : List Int} (hr : r ∈ allR m n) (e : known (m : Int) t r = some h) : ∀ i, i ≤ h → ringT (m : Int) t r i ∈ allR m n ∧ known (m : Int) t (ringT (m : Int) t r i) = some (h - i)
  | 0, _ => ⟨hr, e⟩
  | i + 1, hi => by
    obtain ⟨h1, h2⟩ := ringT_ok hr e i (by omega)
    refine ⟨all_step h1 n2 n12 m2 m100 _, ?_⟩
    have h3 : known (m : Int) t (ringT (m : Int) t r i) = some (h - (i + 1) + 1) := by
      rw [h2]
      congr 1
      omega
    exact (top_ok (able_neR n2 n12 m2 m100 h1) h3).2.2
theorem ringT_few {t h : Nat} {r : List Int} (hr : r ∈ allR m n) (e : known (m : Int) t r = some h) : h < m ^ n := by
  have nd : ((List.range (h + 1)).map (ringT (m : Int) t r)).Nodup := by
    rw [List.nodup_iff_pairwise_ne, List.pairwise_map]
    refine List.Pairwise.imp_of_mem ?_ List.pairwise_lt_range
    intro i j hi hj lt z
    have hi := List.mem_range.mp hi
    have hj := List.mem_range.mp hj
    have a1 := (ringT_ok n2 n12 m2 m100 hr e i (by omega)).2
    have a2 := (ringT_ok n2 n12 m2 m100 hr e j (by omega)).2
    rw [z, a2] at a1
    have := Option.some.inj a1
    omega
  have := erase_sub nd (l' := allR m n) fun x hx => by
    obtain ⟨j, hj, rfl⟩ := List.mem_map.mp hx
    have hj := List.mem_range.mp hj
    exact (ringT_ok n2 n12 m2 m100 hr e j (by omega)).1
  rw [List.length_map, List.length_range, allR_len] at this
  omega
/-- with numbers enough each ring is known -/
theorem all_known {t : Nat} (nm : n ≤ m) (s : stable m n t) {r : List Int} (hr : r ∈ allR m n) : known (m : Int) t r ≠ none := fun e => by
  obtain ⟨h1, h2⟩ := wayW_ok n2 n12 m2 m100 s hr e 0 (3 * n * (n - 1) + 1)
  have g := good_all (ringW_ok n2 n12 m2 m100 s hr e 0).1 n2 n12 m2 m100
  have := most_le g (by omega) h1 h2
  rw [List.length_drop, orderW_len] at this
  omega
end
/-! ### all rings stand in their order -/
theorem lex_left : ∀ (r a b : List Int), HT.lexLt (r ++ a) (r ++ b) = HT.lexLt a b
  | [], _, _ => rfl
  | x :: r, a, b => by
    show HT.lexLt (x :: (r ++ a)) (x :: (r ++ b)) = _
    rw [HT.lexLt_cons, if_pos rfl]
    exact lex_left r a b
theorem lex_app : ∀ {r q : List Int} (a b : List Int), r.length = q.length → HT.lexLt r q = true → HT.lexLt (r ++ a) (q ++ b) = true
  | [], [], _, _, _, h => nomatch h
  | [], _ :: _, _, _, h, _ => nomatch h
  | _ :: _, [], _, _, h, _ => nomatch h
  | x :: r, y :: q, a, b, hl, h => by
    show HT.lexLt (x :: (r ++ a)) (y :: (q ++ b)) = true
    rw [HT.lexLt_cons] at h ⊢
    by_cases e : x = y
    · rw [if_pos e] at h ⊢
      exact lex_app a b (Nat.succ.inj hl) h
    · rw [if_neg e] at h ⊢
      exact h
theorem allR_sorted (m : Nat) : ∀ n, (allR m n).Pairwise fun a b => HT.lexLt a b = true
  | 0 => List.pairwise_singleton _ _
  | n + 1 => by
    rw [allR_succ, List.pairwise_flatMap]
    refine ⟨fun r _ => ?_, ?_⟩
    · rw [List.pairwise_map]
      refine List.Pairwise.imp ?_ List.pairwise_lt_range
      intro a b lt
      rw [lex_left]
      show (if (a : Int) = (b : Int) then _ else _) = true
      rw [if_neg (by omega)]
      exact decide_eq_true (by omega)
    · refine List.Pairwise.imp_of_mem ?_ (allR_sorted m n)
      intro a b ha hb lt x hx y hy
      obtain ⟨i, _, rfl⟩ := List.mem_map.mp hx
      obtain ⟨j, _, rfl⟩ := List.mem_map.mp hy
      exact lex_app _ _ (by rw [(mem_allR.mp ha).1, (mem_allR.mp hb).1]) lt
theorem allR_lt {m n i j : Nat} {a b : List Int} (ha : (allR m n)[i]? = some a) (hb : (allR m n)[j]? = some b) (h : i < j) : HT.lexLt a b = true := by
  obtain ⟨h1, e1⟩ := List.getElem?_eq_some_iff.mp ha
  obtain ⟨h2, e2⟩ := List.getElem?_eq_some_iff.mp hb
  rw [← e1, ← e2]
  exact List.pairwise_iff_getElem.mp (allR_sorted m n) i j h1 h2 h
/-- the first of the highest -/
def Top1 (m n t : Nat) (r : List Int) : Prop := ∃ i, (allR m n)[i]? = some r ∧ Best (allR m n).length (fun j => (hgt (m : Int) t ((allR m n).getD j []) : Int)) i
theorem Top1.mem {m n t : Nat} {r : List Int} (h : Top1 m n t r) : r ∈ allR m n := by
  obtain ⟨i, e, _⟩ := h
  exact List.mem_of_getElem? e
theorem Top1.le {m n t : Nat} {r q : List Int} (h : Top1 m n t r) (hq : q ∈ allR m n) : hgt (m : Int) t q ≤ hgt (m : Int) t r := by
  obtain ⟨i, e, _, b⟩ := h
  obtain ⟨j, hj, ej⟩ := List.mem_iff_getElem.mp hq
  have := (b j hj).1
  have g1 : (allR m n).getD j [] = q := by rw [List.getD_eq_getElem?_getD, List.getElem?_eq_getElem hj, ej]; rfl
  have g2 : (allR m n).getD i [] = r := by rw [List.getD_eq_getElem?_getD, e]; rfl
  simp only [g1, g2] at this
  omega
/-- .. is the least of them -/
theorem Top1.least {m n t : Nat} {r q : List Int} (h : Top1 m n t r) (hq : q ∈ allR m n) (eh : hgt (m : Int) t q = hgt (m : Int) t r) (l : HT.lexLt r q = false) : q = r := by
  obtain ⟨i, e, _, b⟩ := h
  obtain ⟨j, hj, ej⟩ := List.mem_iff_getElem.mp hq
  have hj2 : (allR m n)[j]? = some q := by rw [List.getElem?_eq_getElem hj, ej]
  have g1 : (allR m n).getD j [] = q := by rw [List.getD_eq_getElem?_getD, hj2]; rfl
  have g2 : (allR m n).getD i [] = r := by rw [List.getD_eq_getElem?_getD, e]; rfl
  rcases Nat.lt_trichotomy i j with c | c | c
  · have := allR_lt e hj2 c
    rw [l] at this
    cases this
  · subst c
    rw [e] at hj2
    exact (Option.some.inj hj2).symm
  · have := (b j hj).2 c
    simp only [g1, g2] at this
    omega
/-! ### two stable rounds tell the same -/
section
variable {m n : Nat} (n2 : 2 ≤ n) (n12 : n ≤ 12) (m2 : 2 ≤ m) (m100 : m ≤ 100)
include n2 n12 m2 m100
theorem hgt_one {t u : Nat} (s : stable m n t) (s' : stable m n u) {r : List Int} (hr : r ∈ allR m n) : hgt (m : Int) t r = hgt (m : Int) u r := by
  unfold hgt
  rw [stable_one n2 n12 m2 m100 s s' hr]
theorem topK_one {t u : Nat} (s : stable m n t) (s' : stable m n u) {r : List Int} (hr : r ∈ allR m n) : topK (m : Int) t r = topK (m : Int) u r := by
  unfold topK
  rw [hgt_one n2 n12 m2 m100 s s' hr]
  congr 1
  refine congrArg (fun p => List.find? p (able r)) ?_
  funext k
  rw [stable_one n2 n12 m2 m100 s s' (all_step hr n2 n12 m2 m100 k)]
theorem ringT_one {t u : Nat} (s : stable m n t) (s' : stable m n u) {r : List Int} (hr : r ∈ allR m n) : ∀ i, ringT (m : Int) t r i = ringT (m : Int) u r i ∧ ringT (m : Int) t r i ∈ allR m n
  | 0 => ⟨rfl, hr⟩
  | i + 1 => by
    obtain ⟨h1, h2⟩ := ringT_one s s' hr i
    refine ⟨?_, all_step h2 n2 n12 m2 m100 _⟩
    show step (m : Int) (ringT (m : Int) t r i) (topK (m : Int) t (ringT (m : Int) t r i)) = step (m : Int) (ringT (m : Int) u r i) (topK (m : Int) u (ringT (m : Int) u r i))
    rw [topK_one n2 n12 m2 m100 s s' h2, h1]
theorem orderT_one {t u : Nat} (s : stable m n t) (s' : stable m n u) {r : List Int} (hr : r ∈ allR m n) (i : Nat) : orderT (m : Int) t r i = orderT (m : Int) u r i := by
  unfold orderT
  refine List.map_congr_left fun j _ => ?_
  obtain ⟨h1, h2⟩ := ringT_one n2 n12 m2 m100 s s' hr j
  rw [topK_one n2 n12 m2 m100 s s' h2, h1]
theorem Top1.other {t u : Nat} (s : stable m n t) (s' : stable m n u) {r : List Int} (h : Top1 m n t r) : Top1 m n u r := by
  obtain ⟨i, e, hi, b⟩ := h
  have eq : ∀ j, j < (allR m n).length → (hgt (m : Int) u ((allR m n).getD j []) : Int) = (hgt (m : Int) t ((allR m n).getD j []) : Int) := fun j hj => by
    rw [hgt_one n2 n12 m2 m100 s' s (by rw [List.getD_eq_getElem?_getD, List.getElem?_eq_getElem hj]; exact List.getElem_mem hj)]
  refine ⟨i, e, hi, fun j hj => ?_⟩
  show (hgt (m : Int) u ((allR m n).getD j []) : Int) ≤ (hgt (m : Int) u ((allR m n).getD i []) : Int) ∧ (j < i → (hgt (m : Int) u ((allR m n).getD j []) : Int) < (hgt (m : Int) u ((allR m n).getD i []) : Int))
  rw [eq j hj, eq i hi]
  exact b j hj
end
/-- the rings of such a dict, in its order -/
theorem keyed_rings {m n : Nat} {kvs : List (List L2.Key × V)} (h : Keyed m n kvs) : ∃ rs : List (List Int), kvs.map (·.1) = rs.map keyOf ∧ ∀ r ∈ rs, r ∈ allR m n := by
  have : ∀ ks : List (List L2.Key), (∀ k ∈ ks, ∃ r ∈ allR m n, k = keyOf r) → ∃ rs : List (List Int), ks = rs.map keyOf ∧ ∀ r ∈ rs, r ∈ allR m n := by
    intro ks
    induction ks with
    | nil => exact fun _ => ⟨[], rfl, fun r hr => nomatch hr⟩
    | cons k ks ih =>
      intro hk
      obtain ⟨r, hr, e⟩ := hk k List.mem_cons_self
      obtain ⟨rs, e2, h2⟩ := ih fun k' hk' => hk k' (List.mem_cons_of_mem _ hk')
      refine ⟨r :: rs, by rw [e, e2]; rfl, fun q hq => ?_⟩
      rcases List.mem_cons.mp hq with z | z
      · rw [z]
        exact hr
      · exact h2 q z
  exact this _ h.2
theorem rings_at {kvs : List (List L2.Key × V)} {rs : List (List Int)} (h : kvs.map (·.1) = rs.map keyOf) {i : Nat} {k : List L2.Key} {v : V} (e : kvs[i]? = some (k, v)) : ∃ r, rs[i]? = some r ∧ k = keyOf r := by
  have e2 := congrArg (fun l : List (List L2.Key) => l[i]?) h
  simp only [List.getElem?_map, e] at e2
  cases er : rs[i]? with
  | none =>
    rw [er] at e2
    cases e2
  | some r =>
    rw [er] at e2
    exact ⟨r, rfl, Option.some.inj e2⟩
end HR


namespace HR
open PySem PySem.Spec PyProof.Rows L2 HL LamX
/-! ### what a list that was told holds: ints, or tuples of ints -/
abbrev TD : Type := List Int ⊕ List (List Int)
def Told (K : PySem.W.Frag) (H : Hp) (xs : List V) : TD → Prop
  | .inl zs => xs = zs.map V.int
  | .inr rs => ∃ ts : List Addr, xs = ts.map V.ref ∧ TupsAt K H ts rs
def dataT : TD → List PyData
  | .inl zs => zs.map PyData.int
  | .inr rs => rs.map fun r => PyData.tuple (r.map PyData.int)
theorem Told.on {K : PySem.W.Frag} {H H' : Hp} {xs : List V} : ∀ {d : TD}, Told K H xs d → Same H H' → Told K H' xs d
  | .inl _, h, _ => h
  | .inr _, ⟨ts, e, h⟩, s => ⟨ts, e, h.on s⟩
theorem Told.wr {K : PySem.W.Frag} {H : Hp} {l : Addr} {xs ys zs : List V} (hl : H l = some (.lst ys)) : ∀ {d : TD}, Told K H xs d → Told K (upd H l (.lst zs)) xs d
  | .inl _, h => h
  | .inr _, ⟨ts, e, h⟩ => ⟨ts, e, h.wr hl⟩
theorem dpAll_tupsS {K : PySem.W.Frag} {H : Hp} : ∀ {ts : List Addr} {rs : List (List Int)}, TupsAt K H ts rs → DpAll K H (ts.map V.ref) (rs.map fun r => PyData.tuple (r.map PyData.int))
  | [], [], _ => .nil
  | [], _ :: _, h => nomatch h.1
  | _ :: _, [], h => nomatch h.1
  | t :: ts, r :: rs, h => .cons (.tup (h.2 0 t r rfl rfl) (dpAll_ints r)) (dpAll_tupsS ⟨Nat.succ.inj h.1, fun i t' r' a b => h.2 (i + 1) t' r' a b⟩)
theorem Told.dp {K : PySem.W.Frag} {H : Hp} {xs : List V} : ∀ {d : TD}, Told K H xs d → DpAll K H xs (dataT d)
  | .inl zs, h => by
    have h : xs = zs.map V.int := h
    subst h
    exact dpAll_ints zs
  | .inr _, ⟨ts, e, h⟩ => by
    subst e
    exact dpAll_tupsS h
theorem dataT_shaped : ∀ d : TD, SeqAt.shaped (.list (dataT d)) = true
  | .inl zs => shaped_lst zs
  | .inr rs => by
    have all : ∀ rs : List (List Int), PyData.depthAll (rs.map fun r => PyData.tuple (r.map PyData.int)) ≤ 1 ∧ PyData.canLayAll0 (rs.map fun r => PyData.tuple (r.map PyData.int)) = true := by
      intro rs
      induction rs with
      | nil => exact ⟨Nat.zero_le _, rfl⟩
      | cons r rs ih =>
        obtain ⟨h1, h2⟩ := depth_all r
        refine ⟨?_, ?_⟩
        · show max (PyData.depthAll (r.map PyData.int) + 1) _ ≤ 1
          rw [h1]
          exact Nat.max_le.mpr ⟨Nat.le_refl _, ih.1⟩
        · show (PyData.canLayAll0 (r.map PyData.int) && _) = true
          rw [h2, ih.2]
          rfl
    obtain ⟨h1, h2⟩ := all rs
    have h1 : PyData.depthAll (dataT (.inr rs)) ≤ 1 := h1
    have h2 : PyData.canLayAll0 (dataT (.inr rs)) = true := h2
    show (PyData.canLayAll0 _ && decide (PyData.depthAll _ + 1 ≤ 64)) = true
    rw [h2, decide_eq_true (by omega)]
    rfl
theorem dataT_same : ∀ d : TD, PyData.eqv (.list (dataT d)) (.list (dataT d)) = true
  | .inl zs => (eqv_ints zs zs).trans (decide_eq_true rfl)
  | .inr rs => by
    have all : ∀ rs : List (List Int), PyData.eqvAll (rs.map fun r => PyData.tuple (r.map PyData.int)) (rs.map fun r => PyData.tuple (r.map PyData.int)) = true := by
      intro rs
      induction rs with
      | nil => rfl
      | cons r rs ih =>
        show (PyData.eqvAll (r.map PyData.int) (r.map PyData.int) && _) = true
        rw [eqv_ints, decide_eq_true rfl, ih]
        rfl
    exact all rs
theorem extN_put {H H' : Hp} {o : Addr} {u : HO} (e : ExtN H H') (n : ∀ x, H o = some x → ∃ ps, x = .tbl ps) : ExtN H (upd H' o u) := fun b x hb nt => by
  have nb : b ≠ o := fun z => by
    rw [z] at hb
    obtain ⟨ps, ex⟩ := n x hb
    exact nt ps ex
  exact (upd_ne nb).trans (e b x hb nt)
theorem seqN {K : PySem.W.Frag} {H H' : Hp} {a : Addr} {xs : List V} (e : ExtN H H') (h : SqL K H a xs) : SqL K H' a xs := by
  rcases h with (h | ⟨o, h⟩) | h
  · exact Or.inl (Or.inl (e a _ h (fun _ z => nomatch z)))
  · exact Or.inl (Or.inr ⟨o, e a _ h (fun _ z => nomatch z)⟩)
  · exact Or.inr h
theorem first_one {m : Int} {zs r : List Int} {N M : Nat} (h1 : sick m r (draw m zs r N)) (h2 : (able (run m r (draw m zs r N))).length = 1) (h3 : sick m r (draw m zs r M)) (h4 : (able (run m r (draw m zs r M))).length = 1) : N = M := by
  have key : ∀ {N M : Nat}, (able (run m r (draw m zs r N))).length = 1 → sick m r (draw m zs r M) → ¬ N < M := fun {N M} h2 h3 lt => by
    obtain ⟨ks, e, l⟩ := draw_take m zs r N (M - N)
    rw [show N + (M - N) = M by omega] at e
    have := sick_at h3 (i := N) (by rw [draw_len]; exact lt)
    rw [e, List.take_append_of_le_length (by rw [draw_len]; exact Nat.le_refl _), List.take_of_length_le (by rw [draw_len]; exact Nat.le_refl _)] at this
    exact this h2
  have a := key h2 h3
  have b := key h4 h1
  omega
/-! ### the first ring that need not heal, the first that comes again -/
def FirstU (m n t : Nat) (r : List Int) : Prop := ∃ k : Nat, (allR m n)[k]? = some r ∧ known (m : Int) t r = none ∧ ∀ q ∈ (allR m n).take k, known (m : Int) t q ≠ none
theorem FirstU.mem {m n t : Nat} {r : List Int} (h : FirstU m n t r) : r ∈ allR m n := by
  obtain ⟨k, e, _⟩ := h
  exact List.mem_of_getElem? e
section
variable {m n : Nat} (n2 : 2 ≤ n) (n12 : n ≤ 12) (m2 : 2 ≤ m) (m100 : m ≤ 100)
include n2 n12 m2 m100
theorem FirstU.one {t u : Nat} (s : stable m n t) (s' : stable m n u) {r q : List Int} (h : FirstU m n t r) (h' : FirstU m n u q) : r = q := by
  have key : ∀ {t u : Nat} {r q : List Int} {k l : Nat}, stable m n t → stable m n u → (allR m n)[k]? = some r → known (m : Int) t r = none → (∀ q ∈ (allR m n).take l, known (m : Int) u q ≠ none) → ¬ k < l := fun {t u r q k l} s s' e kn al lt => by
    have rm := List.mem_of_getElem? e
    refine al r ?_ ((stable_one n2 n12 m2 m100 s' s rm).trans kn)
    refine List.mem_iff_getElem?.mpr ⟨k, ?_⟩
    rw [List.getElem?_take_of_lt lt]
    exact e
  obtain ⟨k, e, kn, al⟩ := h
  obtain ⟨l, e2, kn2, al2⟩ := h'
  have a := key (q := q) s s' e kn al2
  have b := key (q := q) s' s e2 kn2 al
  have : k = l := by omega
  subst this
  exact Option.some.inj (e.symm.trans e2)
theorem pickW_one {t u : Nat} (s : stable m n t) (s' : stable m n u) {r : List Int} (hr : r ∈ allR m n) : pickW (m : Int) t r = pickW (m : Int) u r := by
  unfold pickW
  congr 1
  refine congrArg (fun p => List.find? p (able r)) ?_
  funext k
  rw [stable_one n2 n12 m2 m100 s s' (all_step hr n2 n12 m2 m100 k)]
theorem ringW_one {t u : Nat} (s : stable m n t) (s' : stable m n u) {r : List Int} (hr : r ∈ allR m n) : ∀ i, ringW (m : Int) t r i = ringW (m : Int) u r i ∧ ringW (m : Int) t r i ∈ allR m n
  | 0 => ⟨rfl, hr⟩
  | i + 1 => by
    obtain ⟨h1, h2⟩ := ringW_one s s' hr i
    refine ⟨?_, all_step h2 n2 n12 m2 m100 _⟩
    show step (m : Int) (ringW (m : Int) t r i) (pickW (m : Int) t (ringW (m : Int) t r i)) = step (m : Int) (ringW (m : Int) u r i) (pickW (m : Int) u (ringW (m : Int) u r i))
    rw [pickW_one n2 n12 m2 m100 s s' h2, h1]
theorem orderW_one {t u : Nat} (s : stable m n t) (s' : stable m n u) {r : List Int} (hr : r ∈ allR m n) (i : Nat) : orderW (m : Int) t r i = orderW (m : Int) u r i := by
  unfold orderW
  refine List.map_congr_left fun j _ => ?_
  obtain ⟨h1, h2⟩ := ringW_one n2 n12 m2 m100 s s' hr j
  rw [pickW_one n2 n12 m2 m100 s s' h2, h1]
end
theorem again_one {f : Nat → List Int} {i j k l : Nat} (n1 : ((List.range i).map f).Nodup) (n2 : ((List.range k).map f).Nodup) (h1 : j < i) (e1 : f j = f i) (h2 : l < k) (e2 : f l = f k) : i = k ∧ j = l := by
  have inj : ∀ {i : Nat}, ((List.range i).map f).Nodup → ∀ {a b : Nat}, a < i → b < i → f a = f b → a = b := fun {i} nd {a b} ha hb e => by
    rw [List.nodup_iff_pairwise_ne, List.pairwise_map] at nd
    rcases Nat.lt_trichotomy a b with c | c | c
    · exact absurd e (List.pairwise_iff_getElem.mp nd a b (by simpa using ha) (by simpa using hb) c |> fun z => by simpa using z)
    · exact c
    · exact absurd e.symm (List.pairwise_iff_getElem.mp nd b a (by simpa using hb) (by simpa using ha) c |> fun z => by simpa using z)
  have ik : i = k := by
    rcases Nat.lt_trichotomy i k with c | c | c
    · have := inj n2 (a := j) (b := i) (by omega) c e1
      omega
    · exact c
    · have := inj n1 (a := l) (b := k) (by omega) c e2
      omega
  subst ik
  exact ⟨rfl, inj n1 h1 h2 (e1.trans e2.symm)⟩
end HR


namespace HR
open PySem PySem.Spec PyProof.Rows L2 HL

/-! ### the text by places -/
def topAt (i : Nat) : Stmt := PySem.Challenge.pw_healring_k14_lists_told_anew.main.body.getD i (.Pass ⟨0, 0, 0, 0⟩)
abbrev s_check_many : Stmt := topAt 13
abbrev s_check_machines : Stmt := topAt 14
abbrev s_check_ring : Stmt := topAt 15
abbrev s_check_machine : Stmt := topAt 16
abbrev s_may_step : Stmt := topAt 17
abbrev s_taken : Stmt := topAt 18
abbrev s_after : Stmt := topAt 19
abbrev s_able : Stmt := topAt 20
abbrev s_stepped : Stmt := topAt 21
abbrev s_gone : Stmt := topAt 22
abbrev s_chosen : Stmt := topAt 24
abbrev s_drawn : Stmt := topAt 25
abbrev s_counted : Stmt := topAt 26
abbrev s_traced : Stmt := topAt 27
abbrev s_check_enough : Stmt := topAt 29
abbrev s_healed : Stmt := topAt 30
abbrev s_healing : Stmt := topAt 31
abbrev s_most : Stmt := topAt 32
abbrev s_turns : Stmt := topAt 33
abbrev s_check_few : Stmt := topAt 36
abbrev s_all_rings : Stmt := topAt 37
abbrev s_ways_from : Stmt := topAt 38
abbrev s_all_ways : Stmt := topAt 39
abbrev s_all_in : Stmt := topAt 40
abbrev s_longest_steps : Stmt := topAt 41
abbrev s_longest_order : Stmt := topAt 42
abbrev s_way_around : Stmt := topAt 43
abbrev s_worst : Stmt := topAt 44
abbrev s_never : Stmt := topAt 45
abbrev s__law_cell_at : Stmt := topAt 47
abbrev s__law_mixed : Stmt := topAt 48
abbrev s__law_size : Stmt := topAt 49
abbrev s__law_many : Stmt := topAt 50
abbrev s__law_ring : Stmt := topAt 51
abbrev s__law_pick : Stmt := topAt 52
abbrev s__law_order : Stmt := topAt 53
abbrev s__law_ask : Stmt := topAt 54
abbrev s__law_small : Stmt := topAt 55
abbrev s_law : Stmt := topAt 56
theorem sc_check_many : FnScope ["many"] ["many"] (defScope s_check_many) := ⟨rfl, rfl, rfl, by decide +kernel, rfl, by decide +kernel, by decide +kernel⟩
theorem sc_check_machines : FnScope ["machines"] ["machines"] (defScope s_check_machines) := ⟨rfl, rfl, rfl, by decide +kernel, rfl, by decide +kernel, by decide +kernel⟩
theorem sc_check_ring : FnScope ["ring", "many", "number"] ["ring", "many"] (defScope s_check_ring) := ⟨rfl, rfl, rfl, by decide +kernel, rfl, by decide +kernel, by decide +kernel⟩
theorem sc_check_machine : FnScope ["machine", "machines"] ["machine", "machines"] (defScope s_check_machine) := ⟨rfl, rfl, rfl, by decide +kernel, rfl, by decide +kernel, by decide +kernel⟩
theorem sc_may_step : FnScope ["ring", "machine", "same"] ["ring", "machine"] (defScope s_may_step) := ⟨rfl, rfl, rfl, by decide +kernel, rfl, by decide +kernel, by decide +kernel⟩
theorem sc_taken : FnScope ["ring", "many", "machine", "greatest"] ["ring", "many", "machine"] (defScope s_taken) := ⟨rfl, rfl, rfl, by decide +kernel, rfl, by decide +kernel, by decide +kernel⟩
theorem sc_after : FnScope ["ring", "many", "machine"] ["ring", "many", "machine"] (defScope s_after) := ⟨rfl, rfl, rfl, by decide +kernel, rfl, by decide +kernel, by decide +kernel⟩
theorem sc_able : FnScope ["ring", "many", "machine"] ["ring", "many"] (defScope s_able) := ⟨rfl, rfl, rfl, by decide +kernel, rfl, by decide +kernel, by decide +kernel⟩
theorem sc_stepped : FnScope ["ring", "many", "machine"] ["ring", "many", "machine"] (defScope s_stepped) := ⟨rfl, rfl, rfl, by decide +kernel, rfl, by decide +kernel, by decide +kernel⟩
theorem sc_gone : FnScope ["ring", "many", "order", "rings", "machine"] ["ring", "many", "order"] (defScope s_gone) := ⟨rfl, rfl, rfl, by decide +kernel, rfl, by decide +kernel, by decide +kernel⟩
theorem sc_chosen : FnScope ["machines", "numbers", "step", "number"] ["machines", "numbers", "step"] (defScope s_chosen) := ⟨rfl, rfl, rfl, by decide +kernel, rfl, by decide +kernel, by decide +kernel⟩
theorem sc_drawn : FnScope ["ring", "many", "numbers", "steps", "order", "step", "machine"] ["ring", "many", "numbers", "steps"] (defScope s_drawn) := ⟨rfl, rfl, rfl, by decide +kernel, rfl, by decide +kernel, by decide +kernel⟩
theorem sc_counted : FnScope ["order", "machines", "counts", "machine"] ["order", "machines"] (defScope s_counted) := ⟨rfl, rfl, rfl, by decide +kernel, rfl, by decide +kernel, by decide +kernel⟩
theorem sc_traced : FnScope ["ring", "many", "order", "sources", "fresh", "machine"] ["ring", "many", "order"] (defScope s_traced) := ⟨rfl, rfl, rfl, by decide +kernel, rfl, by decide +kernel, by decide +kernel⟩
theorem sc_check_enough : FnScope ["many", "machines"] ["many", "machines"] (defScope s_check_enough) := ⟨rfl, rfl, rfl, by decide +kernel, rfl, by decide +kernel, by decide +kernel⟩
theorem sc_healed : FnScope ["ring", "many"] ["ring", "many"] (defScope s_healed) := ⟨rfl, rfl, rfl, by decide +kernel, rfl, by decide +kernel, by decide +kernel⟩
theorem sc_healing : FnScope ["ring", "many", "numbers", "order", "machine"] ["ring", "many", "numbers"] (defScope s_healing) := ⟨rfl, rfl, rfl, by decide +kernel, rfl, by decide +kernel, by decide +kernel⟩
theorem sc_most : FnScope ["machines"] ["machines"] (defScope s_most) := ⟨rfl, rfl, rfl, by decide +kernel, rfl, by decide +kernel, by decide +kernel⟩
theorem sc_turns : FnScope ["ring", "many", "first", "further"] ["ring", "many"] (defScope s_turns) := ⟨rfl, rfl, rfl, by decide +kernel, rfl, by decide +kernel, by decide +kernel⟩
theorem sc_check_few : FnScope ["machines", "many", "rings", "_"] ["machines", "many"] (defScope s_check_few) := ⟨rfl, rfl, rfl, by decide +kernel, rfl, by decide +kernel, by decide +kernel⟩
theorem sc_all_rings : FnScope ["machines", "many", "rings", "_", "ring", "number"] ["machines", "many"] (defScope s_all_rings) := ⟨rfl, rfl, rfl, by decide +kernel, rfl, by decide +kernel, by decide +kernel⟩
theorem sc_ways_from : FnScope ["ring", "many", "machine"] ["ring", "many"] (defScope s_ways_from) := ⟨rfl, rfl, rfl, by decide +kernel, rfl, by decide +kernel, by decide +kernel⟩
theorem sc_all_ways : FnScope ["machines", "many", "ring"] ["machines", "many"] (defScope s_all_ways) := ⟨rfl, rfl, rfl, by decide +kernel, rfl, by decide +kernel, by decide +kernel⟩
theorem sc_all_in : FnScope ["ways", "rings", "_", "behind"] ["ways", "rings"] (defScope s_all_in) := ⟨rfl, rfl, rfl, by decide +kernel, rfl, by decide +kernel, by decide +kernel⟩
theorem sc_longest_steps : FnScope ["ways", "steps", "ring", "ready", "_", "behind"] ["ways"] (defScope s_longest_steps) := ⟨rfl, rfl, rfl, by decide +kernel, rfl, by decide +kernel, by decide +kernel⟩
theorem sc_longest_order : FnScope ["ring", "ways", "steps", "order", "longest", "way", "machine"] ["ring", "ways", "steps"] (defScope s_longest_order) := ⟨rfl, rfl, rfl, by decide +kernel, rfl, by decide +kernel, by decide +kernel⟩
theorem sc_way_around : FnScope ["ring", "ways", "steps", "order", "places", "endless", "way", "machine"] ["ring", "ways", "steps"] (defScope s_way_around) := ⟨rfl, rfl, rfl, by decide +kernel, rfl, by decide +kernel, by decide +kernel⟩
theorem sc_worst : FnScope ["machines", "many", "ways", "steps", "ring"] ["machines", "many"] (defScope s_worst) := ⟨rfl, rfl, rfl, by decide +kernel, rfl, by decide +kernel, by decide +kernel⟩
theorem sc_never : FnScope ["machines", "many", "ways", "steps", "ring"] ["machines", "many"] (defScope s_never) := ⟨rfl, rfl, rfl, by decide +kernel, rfl, by decide +kernel, by decide +kernel⟩
theorem sc__law_cell_at : FnScope ["_law_script", "_law_k"] ["_law_script", "_law_k"] (defScope s__law_cell_at) := ⟨rfl, rfl, rfl, by decide +kernel, rfl, by decide +kernel, by decide +kernel⟩
theorem sc__law_mixed : FnScope ["_law_cell", "_law_k", "_law_one", "_law_other"] ["_law_cell", "_law_k"] (defScope s__law_mixed) := ⟨rfl, rfl, rfl, by decide +kernel, rfl, by decide +kernel, by decide +kernel⟩
theorem sc__law_size : FnScope ["_law_script"] ["_law_script"] (defScope s__law_size) := ⟨rfl, rfl, rfl, by decide +kernel, rfl, by decide +kernel, by decide +kernel⟩
theorem sc__law_many : FnScope ["_law_script", "_law_size_here", "_law_cell"] ["_law_script", "_law_size_here"] (defScope s__law_many) := ⟨rfl, rfl, rfl, by decide +kernel, rfl, by decide +kernel, by decide +kernel⟩
theorem sc__law_ring : FnScope ["_law_script", "_law_size_here", "_law_many_here", "_law_cell", "_law_way", "_law_k", "_law_at", "_law_low"] ["_law_script", "_law_size_here", "_law_many_here"] (defScope s__law_ring) := ⟨rfl, rfl, rfl, by decide +kernel, rfl, by decide +kernel, by decide +kernel⟩
theorem sc__law_pick : FnScope ["_law_free", "_law_script", "_law_k", "_law_way"] ["_law_free", "_law_script", "_law_k"] (defScope s__law_pick) := ⟨rfl, rfl, rfl, by decide +kernel, rfl, by decide +kernel, by decide +kernel⟩
theorem sc__law_order : FnScope ["_law_ring_here", "_law_many_here", "_law_script", "_law_found", "_law_k", "_law_free", "_law_machine"] ["_law_ring_here", "_law_many_here", "_law_script"] (defScope s__law_order) := ⟨rfl, rfl, rfl, by decide +kernel, rfl, by decide +kernel, by decide +kernel⟩
theorem sc__law_ask : FnScope ["_law_way", "_law_ring_here", "_law_many_here", "_law_order_here", "_law_numbers"] ["_law_way", "_law_ring_here", "_law_many_here", "_law_order_here", "_law_numbers"] (defScope s__law_ask) := ⟨rfl, rfl, rfl, by decide +kernel, rfl, by decide +kernel, by decide +kernel⟩
theorem sc__law_small : FnScope ["_law_way", "_law_script", "_law_cell", "_law_found"] ["_law_way", "_law_script"] (defScope s__law_small) := ⟨rfl, rfl, rfl, by decide +kernel, rfl, by decide +kernel, by decide +kernel⟩
theorem sc_law : FnScope ["_law_script", "_law_size_here", "_law_many_here", "_law_ring_here", "_law_order_here", "_law_numbers", "_law_cell", "_law_first_order", "_law_first_numbers", "_law_way", "_law_told", "_law_kept", "_law_pair", "_law_later"] ["_law_script"] (defScope s_law) := ⟨rfl, rfl, rfl, by decide +kernel, rfl, by decide +kernel, by decide +kernel⟩
structure Top (K : PySem.W.Frag) (mg : Str → Option Value) (base : Heap) where
  f_check_many : Addr
  d_check_many : FuncData
  F_check_many : Fun K "check_many" "check_many" s_check_many f_check_many d_check_many
  g_check_many : mg "check_many" = some (.ref f_check_many)
  b_check_many : Binds K d_check_many ["many"] []
  f_check_machines : Addr
  d_check_machines : FuncData
  F_check_machines : Fun K "check_machines" "check_machines" s_check_machines f_check_machines d_check_machines
  g_check_machines : mg "check_machines" = some (.ref f_check_machines)
  b_check_machines : Binds K d_check_machines ["machines"] []
  f_check_ring : Addr
  d_check_ring : FuncData
  F_check_ring : Fun K "check_ring" "check_ring" s_check_ring f_check_ring d_check_ring
  g_check_ring : mg "check_ring" = some (.ref f_check_ring)
  b_check_ring : Binds K d_check_ring ["ring", "many"] []
  f_check_machine : Addr
  d_check_machine : FuncData
  F_check_machine : Fun K "check_machine" "check_machine" s_check_machine f_check_machine d_check_machine
  g_check_machine : mg "check_machine" = some (.ref f_check_machine)
  b_check_machine : Binds K d_check_machine ["machine", "machines"] []
  f_may_step : Addr
  d_may_step : FuncData
  F_may_step : Fun K "may_step" "may_step" s_may_step f_may_step d_may_step
  g_may_step : mg "may_step" = some (.ref f_may_step)
  b_may_step : Binds K d_may_step ["ring", "machine"] []
  f_taken : Addr
  d_taken : FuncData
  F_taken : Fun K "taken" "taken" s_taken f_taken d_taken
  g_taken : mg "taken" = some (.ref f_taken)
  b_taken : Binds K d_taken ["ring", "many", "machine"] []
  f_after : Addr
  d_after : FuncData
  F_after : Fun K "after" "after" s_after f_after d_after
  g_after : mg "after" = some (.ref f_after)
  b_after : Binds K d_after ["ring", "many", "machine"] []
  f_able : Addr
  d_able : FuncData
  F_able : Fun K "able" "able" s_able f_able d_able
  g_able : mg "able" = some (.ref f_able)
  b_able : Binds K d_able ["ring", "many"] []
  f_stepped : Addr
  d_stepped : FuncData
  F_stepped : Fun K "stepped" "stepped" s_stepped f_stepped d_stepped
  g_stepped : mg "stepped" = some (.ref f_stepped)
  b_stepped : Binds K d_stepped ["ring", "many", "machine"] []
  f_gone : Addr
  d_gone : FuncData
  F_gone : Fun K "gone" "gone" s_gone f_gone d_gone
  g_gone : mg "gone" = some (.ref f_gone)
  b_gone : Binds K d_gone ["ring", "many", "order"] []
  f_chosen : Addr
  d_chosen : FuncData
  F_chosen : Fun K "chosen" "chosen" s_chosen f_chosen d_chosen
  g_chosen : mg "chosen" = some (.ref f_chosen)
  b_chosen : Binds K d_chosen ["machines", "numbers", "step"] []
  f_drawn : Addr
  d_drawn : FuncData
  F_drawn : Fun K "drawn" "drawn" s_drawn f_drawn d_drawn
  g_drawn : mg "drawn" = some (.ref f_drawn)
  b_drawn : Binds K d_drawn ["ring", "many", "numbers", "steps"] []
  f_counted : Addr
  d_counted : FuncData
  F_counted : Fun K "counted" "counted" s_counted f_counted d_counted
  g_counted : mg "counted" = some (.ref f_counted)
  b_counted : Binds K d_counted ["order", "machines"] []
  f_traced : Addr
  d_traced : FuncData
  F_traced : Fun K "traced" "traced" s_traced f_traced d_traced
  g_traced : mg "traced" = some (.ref f_traced)
  b_traced : Binds K d_traced ["ring", "many", "order"] []
  f_check_enough : Addr
  d_check_enough : FuncData
  F_check_enough : Fun K "check_enough" "check_enough" s_check_enough f_check_enough d_check_enough
  g_check_enough : mg "check_enough" = some (.ref f_check_enough)
  b_check_enough : Binds K d_check_enough ["many", "machines"] []
  f_healed : Addr
  d_healed : FuncData
  F_healed : Fun K "healed" "healed" s_healed f_healed d_healed
  g_healed : mg "healed" = some (.ref f_healed)
  b_healed : Binds K d_healed ["ring", "many"] []
  f_healing : Addr
  d_healing : FuncData
  F_healing : Fun K "healing" "healing" s_healing f_healing d_healing
  g_healing : mg "healing" = some (.ref f_healing)
  b_healing : Binds K d_healing ["ring", "many", "numbers"] []
  f_most : Addr
  d_most : FuncData
  F_most : Fun K "most" "most" s_most f_most d_most
  g_most : mg "most" = some (.ref f_most)
  b_most : Binds K d_most ["machines"] []
  f_turns : Addr
  d_turns : FuncData
  F_turns : Fun K "turns" "turns" s_turns f_turns d_turns
  g_turns : mg "turns" = some (.ref f_turns)
  b_turns : Binds K d_turns ["ring", "many"] []
  f_check_few : Addr
  d_check_few : FuncData
  F_check_few : Fun K "check_few" "check_few" s_check_few f_check_few d_check_few
  g_check_few : mg "check_few" = some (.ref f_check_few)
  b_check_few : Binds K d_check_few ["machines", "many"] []
  f_all_rings : Addr
  d_all_rings : FuncData
  F_all_rings : Fun K "all_rings" "all_rings" s_all_rings f_all_rings d_all_rings
  g_all_rings : mg "all_rings" = some (.ref f_all_rings)
  b_all_rings : Binds K d_all_rings ["machines", "many"] []
  f_ways_from : Addr
  d_ways_from : FuncData
  F_ways_from : Fun K "ways_from" "ways_from" s_ways_from f_ways_from d_ways_from
  g_ways_from : mg "ways_from" = some (.ref f_ways_from)
  b_ways_from : Binds K d_ways_from ["ring", "many"] []
  f_all_ways : Addr
  d_all_ways : FuncData
  F_all_ways : Fun K "all_ways" "all_ways" s_all_ways f_all_ways d_all_ways
  g_all_ways : mg "all_ways" = some (.ref f_all_ways)
  b_all_ways : Binds K d_all_ways ["machines", "many"] []
  f_all_in : Addr
  d_all_in : FuncData
  F_all_in : Fun K "all_in" "all_in" s_all_in f_all_in d_all_in
  g_all_in : mg "all_in" = some (.ref f_all_in)
  b_all_in : Binds K d_all_in ["ways", "rings"] []
  f_longest_steps : Addr
  d_longest_steps : FuncData
  F_longest_steps : Fun K "longest_steps" "longest_steps" s_longest_steps f_longest_steps d_longest_steps
  g_longest_steps : mg "longest_steps" = some (.ref f_longest_steps)
  b_longest_steps : Binds K d_longest_steps ["ways"] []
  f_longest_order : Addr
  d_longest_order : FuncData
  F_longest_order : Fun K "longest_order" "longest_order" s_longest_order f_longest_order d_longest_order
  g_longest_order : mg "longest_order" = some (.ref f_longest_order)
  b_longest_order : Binds K d_longest_order ["ring", "ways", "steps"] []
  f_way_around : Addr
  d_way_around : FuncData
  F_way_around : Fun K "way_around" "way_around" s_way_around f_way_around d_way_around
  g_way_around : mg "way_around" = some (.ref f_way_around)
  b_way_around : Binds K d_way_around ["ring", "ways", "steps"] []
  f_worst : Addr
  d_worst : FuncData
  F_worst : Fun K "worst" "worst" s_worst f_worst d_worst
  g_worst : mg "worst" = some (.ref f_worst)
  b_worst : Binds K d_worst ["machines", "many"] []
  f_never : Addr
  d_never : FuncData
  F_never : Fun K "never" "never" s_never f_never d_never
  g_never : mg "never" = some (.ref f_never)
  b_never : Binds K d_never ["machines", "many"] []
  f__law_cell_at : Addr
  d__law_cell_at : FuncData
  F__law_cell_at : Fun K "_law_cell_at" "_law_cell_at" s__law_cell_at f__law_cell_at d__law_cell_at
  g__law_cell_at : mg "_law_cell_at" = some (.ref f__law_cell_at)
  b__law_cell_at : Binds K d__law_cell_at ["_law_script", "_law_k"] []
  f__law_mixed : Addr
  d__law_mixed : FuncData
  F__law_mixed : Fun K "_law_mixed" "_law_mixed" s__law_mixed f__law_mixed d__law_mixed
  g__law_mixed : mg "_law_mixed" = some (.ref f__law_mixed)
  b__law_mixed : Binds K d__law_mixed ["_law_cell", "_law_k"] []
  f__law_size : Addr
  d__law_size : FuncData
  F__law_size : Fun K "_law_size" "_law_size" s__law_size f__law_size d__law_size
  g__law_size : mg "_law_size" = some (.ref f__law_size)
  b__law_size : Binds K d__law_size ["_law_script"] []
  f__law_many : Addr
  d__law_many : FuncData
  F__law_many : Fun K "_law_many" "_law_many" s__law_many f__law_many d__law_many
  g__law_many : mg "_law_many" = some (.ref f__law_many)
  b__law_many : Binds K d__law_many ["_law_script", "_law_size_here"] []
  f__law_ring : Addr
  d__law_ring : FuncData
  F__law_ring : Fun K "_law_ring" "_law_ring" s__law_ring f__law_ring d__law_ring
  g__law_ring : mg "_law_ring" = some (.ref f__law_ring)
  b__law_ring : Binds K d__law_ring ["_law_script", "_law_size_here", "_law_many_here"] []
  f__law_pick : Addr
  d__law_pick : FuncData
  F__law_pick : Fun K "_law_pick" "_law_pick" s__law_pick f__law_pick d__law_pick
  g__law_pick : mg "_law_pick" = some (.ref f__law_pick)
  b__law_pick : Binds K d__law_pick ["_law_free", "_law_script", "_law_k"] []
  f__law_order : Addr
  d__law_order : FuncData
  F__law_order : Fun K "_law_order" "_law_order" s__law_order f__law_order d__law_order
  g__law_order : mg "_law_order" = some (.ref f__law_order)
  b__law_order : Binds K d__law_order ["_law_ring_here", "_law_many_here", "_law_script"] []
  f__law_ask : Addr
  d__law_ask : FuncData
  F__law_ask : Fun K "_law_ask" "_law_ask" s__law_ask f__law_ask d__law_ask
  g__law_ask : mg "_law_ask" = some (.ref f__law_ask)
  b__law_ask : Binds K d__law_ask ["_law_way", "_law_ring_here", "_law_many_here", "_law_order_here", "_law_numbers"] []
  f__law_small : Addr
  d__law_small : FuncData
  F__law_small : Fun K "_law_small" "_law_small" s__law_small f__law_small d__law_small
  g__law_small : mg "_law_small" = some (.ref f__law_small)
  b__law_small : Binds K d__law_small ["_law_way", "_law_script"] []
  f_law : Addr
  d_law : FuncData
  F_law : Fun K "law" "law" s_law f_law d_law
  cc_worst : Addr
  P_worst : Addr
  hc_worst : d_worst.code = .ref cc_worst
  TB_worst : LamX.TabB base mg cc_worst P_worst
  t_FEWEST_MACHINES : Tok
  g_FEWEST_MACHINES : mg "FEWEST_MACHINES" = some (.int 2 t_FEWEST_MACHINES)
  t_MOST_MACHINES : Tok
  g_MOST_MACHINES : mg "MOST_MACHINES" = some (.int 12 t_MOST_MACHINES)
  t_FEWEST_NUMBERS : Tok
  g_FEWEST_NUMBERS : mg "FEWEST_NUMBERS" = some (.int 2 t_FEWEST_NUMBERS)
  t_MOST_NUMBERS : Tok
  g_MOST_NUMBERS : mg "MOST_NUMBERS" = some (.int 100 t_MOST_NUMBERS)
  t_MOST_RINGS : Tok
  g_MOST_RINGS : mg "MOST_RINGS" = some (.int 300 t_MOST_RINGS)
  c_HealError : Addr
  ex_HealError : ExT K mg c_HealError "HealError"
  c_NoNumbers : Addr
  ex_NoNumbers : ExT K mg c_NoNumbers "NoNumbers"
  c_NoRing : Addr
  ex_NoRing : ExT K mg c_NoRing "NoRing"
  c_NoMachine : Addr
  ex_NoMachine : ExT K mg c_NoMachine "NoMachine"
  c_NotNow : Addr
  ex_NotNow : ExT K mg c_NotNow "NotNow"
  c_NotHealed : Addr
  ex_NotHealed : ExT K mg c_NotHealed "NotHealed"
  c_TooGreat : Addr
  ex_TooGreat : ExT K mg c_TooGreat "TooGreat"
  fam : Fam K [c_NoNumbers, c_NoRing, c_NoMachine, c_NotNow, c_NotHealed, c_TooGreat] c_HealError
  n_abs : mg "abs" = none
  n_all : mg "all" = none
  n_int : mg "int" = none
  n_len : mg "len" = none
  n_list : mg "list" = none
  n_max : mg "max" = none
  n_min : mg "min" = none
  n_range : mg "range" = none
  n_tuple : mg "tuple" = none
/-- the six kinds of refusal, in the order of the interface -/
def Top.cs {K : PySem.W.Frag} {mg : Str → Option Value} {base : Heap} (T : Top K mg base) : List Addr := [T.c_NoNumbers, T.c_NoRing, T.c_NoMachine, T.c_NotNow, T.c_NotHealed, T.c_TooGreat]
theorem Top.ec {K : PySem.W.Frag} {mg : Str → Option Value} {base : Heap} (T : Top K mg base) {j : Nat} {C : Addr} (h : T.cs[j]? = some C) : ExcC K C := by
  rcases j with _ | _ | _ | _ | _ | _ | j
  · have e := Option.some.inj h
    subst e
    exact T.ex_NoNumbers.ec
  · have e := Option.some.inj h
    subst e
    exact T.ex_NoRing.ec
  · have e := Option.some.inj h
    subst e
    exact T.ex_NoMachine.ec
  · have e := Option.some.inj h
    subst e
    exact T.ex_NotNow.ec
  · have e := Option.some.inj h
    subst e
    exact T.ex_NotHealed.ec
  · have e := Option.some.inj h
    subst e
    exact T.ex_TooGreat.ec
  · cases h
section
variable {P : Program} {w : World} {K : PySem.W.Frag} {mg : Str → Option Value} {base : Heap}
/-! ### _law_cell_at -/
/-- the k-th number of the script, 0 behind its end -/
def cell (ns : List Int) (k : Nat) : Int := ns.getD k 0
def sp__law_cell_at (K : PySem.W.Frag) : Sp := fun vs H Q _ => ∃ (a : Addr) (ns : List Int) (k : Int), vs = [.ref a, .int k] ∧ SqL K H a (ns.map V.int) ∧ ns.length ≤ 63 ∧ 0 ≤ k ∧ Q (.int (cell ns k.toNat)) H
theorem ok__law_cell_at (T : Top K mg base) : FnOk P w K mg base CX0 1 T.f__law_cell_at T.d__law_cell_at ["_law_script", "_law_k"] (sp__law_cell_at K) := by
  refine T.F__law_cell_at.ok sc__law_cell_at (fun vs H Q E h => ?_) (fun cdv A outer s H vs Q E hr h => ?_)
  · obtain ⟨a, ns, k, rfl, hS, hl, h0, q⟩ := h
    rfl
  · obtain ⟨a, ns, k, rfl, hS, hl, h0, q⟩ := h
    refine ⟨_, (pss_cons (ps_if (pt_cmpR op_lt (pv 1) (pe_callB (r := HL.rLen K) HL.call_lenK (by rfl) T.n_len (by decide +kernel) (pa_cons (pv 0) pa_nil)) (nomark _))
      (pss_one (ps_ret (pe_ix (r := rIxL K) ix_list (pv 0) (pv 1) (fun _ _ => rfl))))
      pss_nil)
      (pss_one (ps_ret pe_int))), ?_⟩
    refine ⟨_, rfl, _, rfl, a, _, rfl, .inl hS, _, _, rfl, rfl, _, rfl, ite2 (fun c => ?_) (fun c => ?_)⟩
    · have c1 := of_decide_eq_true c
      rw [List.length_map] at c1
      have hk : k.toNat < ns.length := by omega
      refine ⟨_, rfl, _, rfl, a, _, k, .int (cell ns k.toNat), rfl, rfl, hS, at_of (j := k.toNat) (by omega) ?_, q⟩
      rw [List.getElem?_map, List.getElem?_eq_getElem hk]
      unfold cell
      rw [List.getD_eq_getElem?_getD, List.getElem?_eq_getElem hk]
      rfl
    · have c1 : ¬ k < (ns.length : Int) := fun z => c (by rw [List.length_map]; exact decide_eq_true z)
      have e : cell ns k.toNat = 0 := by
        unfold cell
        rw [List.getD_eq_getElem?_getD, List.getElem?_eq_none (by omega)]
        rfl
      rw [e] at q
      exact q

/-! ### _law_size -/
def size (ns : List Int) : Int := 2 + cell ns 0 % (6 + 5 * (if decide (cell ns 0 / 1009 % 6 = 1) = true then 1 else 0))
theorem size_b (ns : List Int) : 2 ≤ size ns ∧ size ns ≤ 12 := by
  unfold size
  split
  · have := Int.emod_nonneg (cell ns 0) (b := 6 + 5 * 1) (by decide)
    have := Int.emod_lt_of_pos (cell ns 0) (b := 6 + 5 * 1) (by decide)
    omega
  · have := Int.emod_nonneg (cell ns 0) (b := 6 + 5 * 0) (by decide)
    have := Int.emod_lt_of_pos (cell ns 0) (b := 6 + 5 * 0) (by decide)
    omega
def sp__law_size (K : PySem.W.Frag) : Sp := fun vs H Q _ => ∃ (a : Addr) (ns : List Int), vs = [.ref a] ∧ SqL K H a (ns.map V.int) ∧ ns.length ≤ 63 ∧ Q (.int (size ns)) H
theorem ok__law_size (T : Top K mg base) : FnOk P w K mg base CX0 2 T.f__law_size T.d__law_size ["_law_script"] (sp__law_size K) := by
  refine T.F__law_size.ok sc__law_size (fun vs H Q E h => ?_) (fun cdv A outer s H vs Q E hr h => ?_)
  · obtain ⟨a, ns, rfl, hS, hl, q⟩ := h
    rfl
  · obtain ⟨a, ns, rfl, hS, hl, q⟩ := h
    refine ⟨_, (pss_one (ps_ret (pe_op op_add pe_int (pe_op op_mod (pe_call (ok__law_cell_at T) (hr.mono (by decide)) (by rfl) T.g__law_cell_at T.F__law_cell_at.kp T.b__law_cell_at .nil pass0 (pa_cons (pv 0) (pa_cons pe_int pa_nil))) (pe_op op_add pe_int (pe_op op_mul pe_int (pe_callTy call_int1 (by rfl) T.n_int (by decide +kernel) (pa_cons (pe_cmpR op_eq (pe_op op_mod (pe_op op_fdiv (pe_call (ok__law_cell_at T) (hr.mono (by decide)) (by rfl) T.g__law_cell_at T.F__law_cell_at.kp T.b__law_cell_at .nil pass0 (pa_cons (pv 0) (pa_cons pe_int pa_nil))) pe_int) pe_int) pe_int (nomark _)) pa_nil)))))))), ?_⟩
    refine ⟨_, rfl, a, ns, 0, rfl, hS, hl, by decide, ?_⟩
    refine ⟨_, rfl, a, ns, 0, rfl, hS, hl, by decide, _, _, rfl, rfl, ⟨by decide, by decide⟩, _, _, rfl, rfl, (by show (0 : Int) < 6; decide), rfl, .inr ⟨_, rfl, _, _, rfl, rfl, .inl ⟨by decide, by decide⟩, _, _, rfl, rfl, _, _, rfl, rfl, ?_, _, _, rfl, rfl, ?_⟩⟩
    · show (0 : Int) < 6 + 5 * (if _ then (1 : Int) else 0)
      split <;> decide
    · have e : decide (V.int (cell ns (0 : Int).toNat / 1009 % 6) = V.int 1) = decide (cell ns 0 / 1009 % 6 = 1) := by
        rw [dec_int]
        exact Bool.eq_iff_iff.mpr (by simp)
      rw [e]
      exact q

/-! ### _law_many -/
def manyL (ns : List Int) (n : Int) : List Int :=
  [n + cell ns 1 / 5 % 4, 2 + cell ns 1 / 5 % 99, n, if n - 1 > 2 then n - 1 else 2, 2 + cell ns 1 / 5 % 3]
def many (ns : List Int) (n : Int) : Int := (manyL ns n).getD (cell ns 1 % 5).toNat 0
theorem many_b (ns : List Int) (n : Int) (h2 : 2 ≤ n) (h12 : n ≤ 12) : 2 ≤ many ns n ∧ many ns n ≤ 100 := by
  have a0 := Int.emod_nonneg (cell ns 1) (b := 5) (by decide)
  have a1 := Int.emod_lt_of_pos (cell ns 1) (b := 5) (by decide)
  have all : ∀ x ∈ manyL ns n, 2 ≤ x ∧ x ≤ 100 := by
    have b0 := Int.emod_nonneg (cell ns 1 / 5) (b := 4) (by decide)
    have b1 := Int.emod_lt_of_pos (cell ns 1 / 5) (b := 4) (by decide)
    have c0 := Int.emod_nonneg (cell ns 1 / 5) (b := 99) (by decide)
    have c1 := Int.emod_lt_of_pos (cell ns 1 / 5) (b := 99) (by decide)
    have d0 := Int.emod_nonneg (cell ns 1 / 5) (b := 3) (by decide)
    have d1 := Int.emod_lt_of_pos (cell ns 1 / 5) (b := 3) (by decide)
    intro x hx
    simp only [manyL, List.mem_cons, List.not_mem_nil, or_false] at hx
    rcases hx with e | e | e | e | e
    · omega
    · omega
    · omega
    · split at e <;> omega
    · omega
  exact all _ (getD_mem (by show (cell ns 1 % 5).toNat < 5; omega))
def sp__law_many (K : PySem.W.Frag) : Sp := fun vs H Q _ => ∃ (a : Addr) (ns : List Int) (n : Int), vs = [.ref a, .int n] ∧ SqL K H a (ns.map V.int) ∧ ns.length ≤ 63 ∧ ∀ H', Same H H' → Q (.int (many ns n)) H'
theorem ok__law_many (T : Top K mg base) : FnOk P w K mg base CX0 2 T.f__law_many T.d__law_many ["_law_script", "_law_size_here"] (sp__law_many K) := by
  refine T.F__law_many.ok sc__law_many (fun vs H Q E h => ?_) (fun cdv A outer s H vs Q E hr h => ?_)
  · obtain ⟨a, ns, n, rfl, hS, hl, q⟩ := h
    rfl
  · obtain ⟨a, ns, n, rfl, hS, hl, q⟩ := h
    refine ⟨_, (pss_cons (ps_set (i := 2) sc__law_many.nd rfl (by first | exact Or.inl rfl | exact Or.inr rfl) (pe_call (ok__law_cell_at T) (hr.mono (by decide)) (by rfl) T.g__law_cell_at T.F__law_cell_at.kp T.b__law_cell_at .nil pass0 (pa_cons (pv 0) (pa_cons pe_int pa_nil))))
      (pss_one (ps_ret (pe_ix (r := rIxL K) ix_list (pe_lst (pa_cons (pe_op op_add (pv 1) (pe_op op_mod (pe_op op_fdiv (pv 2) pe_int) pe_int)) (pa_cons (pe_op op_add pe_int (pe_op op_mod (pe_op op_fdiv (pv 2) pe_int) pe_int)) (pa_cons (pv 1) (pa_cons (pe_callB (call_max2 rfl) (by rfl) T.n_max (by decide +kernel) (pa_cons pe_int (pa_cons (pe_op op_sub (pv 1) pe_int) pa_nil))) (pa_cons (pe_op op_add pe_int (pe_op op_mod (pe_op op_fdiv (pv 2) pe_int) pe_int)) pa_nil)))))) (pe_op op_mod (pv 2) pe_int) (fun _ _ => rfl))))), ?_⟩
    have a0 := Int.emod_nonneg (cell ns 1) (b := 5) (by decide)
    have a1 := Int.emod_lt_of_pos (cell ns 1) (b := 5) (by decide)
    refine ⟨_, rfl, a, ns, 1, rfl, hS, hl, by decide, ?_⟩
    refine ⟨_, rfl, _, rfl, _, _, rfl, rfl, ⟨by decide, by decide⟩, _, _, rfl, rfl, (by show (0 : Int) < 4; decide), _, _, rfl, rfl, ?_⟩
    refine ⟨_, rfl, _, _, rfl, rfl, ⟨by decide, by decide⟩, _, _, rfl, rfl, (by show (0 : Int) < 99; decide), _, _, rfl, rfl, ?_⟩
    refine ⟨_, rfl, _, rfl, _, _, rfl, rfl, _, _, rfl, ?_⟩
    refine ⟨_, rfl, _, _, rfl, rfl, ⟨by decide, by decide⟩, _, _, rfl, rfl, (by show (0 : Int) < 3; decide), _, _, rfl, rfl, ?_⟩
    refine ⟨by show 5 ≤ sizeLine; rw [sizeLine_eq]; decide, fun p hp => ?_⟩
    refine ⟨_, rfl, _, _, rfl, rfl, (by show (0 : Int) < 5; decide), p, (manyL ns n).map V.int, cell ns 1 % 5, _, rfl, rfl, SqL.of upd_same, at_int (k := (cell ns 1 % 5).toNat) (by omega) (by show (cell ns 1 % 5).toNat < 5; omega), q _ (same_new hp)⟩

/-! ### _law_mixed -/
def mixOne (c k : Int) : Int := (c % 1000003 + 1) * (k * 48271 + 11) % 1000003
def mixTwo (c k : Int) : Int := (mixOne c k * mixOne c k + k * 7919 + c / 1000003) % 1000003
def mixed (c k : Int) : Int := mixTwo c k * mixTwo c k % 1000003
theorem mixOne_b (c k : Int) : 0 ≤ mixOne c k ∧ mixOne c k < 1000003 := ⟨Int.emod_nonneg _ (by decide), Int.emod_lt_of_pos _ (by decide)⟩
theorem mixTwo_b (c k : Int) : 0 ≤ mixTwo c k ∧ mixTwo c k < 1000003 := ⟨Int.emod_nonneg _ (by decide), Int.emod_lt_of_pos _ (by decide)⟩
theorem mixed_b (c k : Int) : 0 ≤ mixed c k ∧ mixed c k < 1000003 := ⟨Int.emod_nonneg _ (by decide), Int.emod_lt_of_pos _ (by decide)⟩
def sp__law_mixed : Sp := fun vs H Q _ => ∃ (c k : Int), vs = [.int c, .int k] ∧ 0 ≤ k ∧ k ≤ 1000000 ∧ Q (.int (mixed c k)) H
theorem ok__law_mixed (T : Top K mg base) : FnOk P w K mg base CX0 1 T.f__law_mixed T.d__law_mixed ["_law_cell", "_law_k"] (sp__law_mixed) := by
  refine T.F__law_mixed.ok sc__law_mixed (fun vs H Q E h => ?_) (fun cdv A outer s H vs Q E hr h => ?_)
  · obtain ⟨c, k, rfl, h0, h1, q⟩ := h
    rfl
  · obtain ⟨c, k, rfl, h0, h1, q⟩ := h
    refine ⟨_, (pss_cons (ps_set (i := 2) sc__law_mixed.nd rfl (by first | exact Or.inl rfl | exact Or.inr rfl) (pe_op op_mod (pe_op op_mul (pe_op op_add (pe_op op_mod (pv 0) pe_int) pe_int) (pe_op op_add (pe_op op_mul (pv 1) pe_int) pe_int)) pe_int))
      (pss_cons (ps_set (i := 3) sc__law_mixed.nd rfl (by first | exact Or.inl rfl | exact Or.inr rfl) (pe_op op_mod (pe_op op_add (pe_op op_add (pe_op op_mul (pv 2) (pv 2)) (pe_op op_mul (pv 1) pe_int)) (pe_op op_fdiv (pv 0) pe_int)) pe_int))
      (pss_one (ps_ret (pe_op op_mod (pe_op op_mul (pv 3) (pv 3)) pe_int))))), ?_⟩
    have b0 := Int.emod_nonneg c (b := 1000003) (by decide)
    have b1 := Int.emod_lt_of_pos c (b := 1000003) (by decide)
    have m1 := mixOne_b c k
    have m2 := mixTwo_b c k
    refine ⟨_, rfl, _, _, rfl, rfl, (by show (0 : Int) < 1000003; decide), _, _, rfl, rfl, _, rfl, _, _, rfl, rfl, .inl ⟨by omega, by omega⟩, _, _, rfl, rfl, _, _, rfl, rfl, .inl ⟨by omega, by omega⟩, _, _, rfl, rfl, (by show (0 : Int) < 1000003; decide), ?_⟩
    refine ⟨.int (mixOne c k), rfl, .int (mixOne c k), rfl, mixOne c k, mixOne c k, rfl, rfl, .inl ⟨by omega, by omega⟩, _, rfl, _, _, rfl, rfl, .inl ⟨by omega, by omega⟩, _, _, rfl, rfl, _, rfl, _, _, rfl, rfl, ⟨by decide, by decide⟩, _, _, rfl, rfl, _, _, rfl, rfl, (by show (0 : Int) < 1000003; decide), ?_⟩
    refine ⟨.int (mixTwo c k), rfl, .int (mixTwo c k), rfl, mixTwo c k, mixTwo c k, rfl, rfl, .inl ⟨by omega, by omega⟩, _, _, rfl, rfl, (by show (0 : Int) < 1000003; decide), q⟩

/-! ### _law_ring -/
def ring (ns : List Int) (n m : Int) : List Int :=
  if cell ns 2 % 5 = 0 then (List.range n.toNat).map fun k => cell ns (4 + k) % m
  else if cell ns 2 % 5 = 1 then (List.range n.toNat).map fun k : Nat => mixed (cell ns 2) (k : Int) % (if 2 + cell ns 2 / 5 % 3 < m then 2 + cell ns 2 / 5 % 3 else m)
  else if cell ns 2 % 5 = 2 then List.replicate (cell ns 2 / 5 % (n + 1)).toNat (cell ns 2 / 50 % m) ++ List.replicate (n - cell ns 2 / 5 % (n + 1)).toNat (cell ns 2 / 5000 % m)
  else if cell ns 2 % 5 = 3 then (List.range n.toNat).map fun k : Nat => (cell ns 2 / 5 + (k : Int) * (1 + cell ns 2 / 500 % 3)) % m
  else (List.range n.toNat).map fun k : Nat => mixed (cell ns 2) (k : Int) % m
theorem ring_good (ns : List Int) {n m : Int} (n2 : 2 ≤ n) (n12 : n ≤ 12) (m2 : 2 ≤ m) (m100 : m ≤ 100) : Good n.toNat m (ring ns n m) := by
  have em : ∀ x : Int, 0 ≤ x % m ∧ x % m < m := fun x => ⟨Int.emod_nonneg _ (by omega), Int.emod_lt_of_pos _ (by omega)⟩
  refine ⟨?_, by omega, by omega, m2, m100, ?_⟩
  · have a0 := Int.emod_nonneg (cell ns 2 / 5) (b := n + 1) (by omega)
    have a1 := Int.emod_lt_of_pos (cell ns 2 / 5) (b := n + 1) (by omega)
    unfold ring
    split
    · rw [List.length_map, List.length_range]
    split
    · rw [List.length_map, List.length_range]
    split
    · rw [List.length_append, List.length_replicate, List.length_replicate]
      omega
    split
    · rw [List.length_map, List.length_range]
    · rw [List.length_map, List.length_range]
  · intro x hx
    unfold ring at hx
    split at hx
    · obtain ⟨k, _, rfl⟩ := List.mem_map.mp hx
      exact em _
    split at hx
    · obtain ⟨k, _, rfl⟩ := List.mem_map.mp hx
      have d0 := Int.emod_nonneg (cell ns 2 / 5) (b := 3) (by decide)
      split
      · have := Int.emod_nonneg (mixed (cell ns 2) k) (b := 2 + cell ns 2 / 5 % 3) (by omega)
        have := Int.emod_lt_of_pos (mixed (cell ns 2) k) (b := 2 + cell ns 2 / 5 % 3) (by omega)
        omega
      · exact em _
    split at hx
    · rcases List.mem_append.mp hx with h | h
      · rw [(List.mem_replicate.mp h).2]
        exact em _
      · rw [(List.mem_replicate.mp h).2]
        exact em _
    split at hx
    · obtain ⟨k, _, rfl⟩ := List.mem_map.mp hx
      exact em _
    · obtain ⟨k, _, rfl⟩ := List.mem_map.mp hx
      exact em _
theorem flat_one (x : V) : ∀ k : Nat, (List.replicate k [x]).flatten = List.replicate k x
  | 0 => rfl
  | k + 1 => by
    rw [List.replicate_succ, List.flatten_cons, flat_one x k, List.replicate_succ]
    rfl
def sp__law_ring (K : PySem.W.Frag) : Sp := fun vs H Q _ => ∃ (a : Addr) (ns : List Int) (n m : Int), vs = [.ref a, .int n, .int m] ∧ SqL K H a (ns.map V.int) ∧ ns.length ≤ 63 ∧ 2 ≤ n ∧ n ≤ 12 ∧ 2 ≤ m ∧ m ≤ 100 ∧
  ∀ p H', Same H H' → SqT K H' p ((ring ns n m).map V.int) → Q (.ref p) H'
theorem ok__law_ring (T : Top K mg base) : FnOk P w K mg base CX0 2 T.f__law_ring T.d__law_ring ["_law_script", "_law_size_here", "_law_many_here"] (sp__law_ring K) := by
  refine T.F__law_ring.ok sc__law_ring (fun vs H Q E h => ?_) (fun cdv A outer s H vs Q E hr h => ?_)
  · obtain ⟨a, ns, n, m, rfl, hS, hl, n2, n12, m2, m100, q⟩ := h
    rfl
  · obtain ⟨a, ns, n, m, rfl, hS, hl, n2, n12, m2, m100, q⟩ := h
    refine ⟨_, (pss_cons (ps_set (i := 3) sc__law_ring.nd rfl (by first | exact Or.inl rfl | exact Or.inr rfl) (pe_call (ok__law_cell_at T) (hr.mono (by decide)) (by rfl) T.g__law_cell_at T.F__law_cell_at.kp T.b__law_cell_at .nil pass0 (pa_cons (pv 0) (pa_cons pe_int pa_nil))))
      (pss_cons (ps_set (i := 4) sc__law_ring.nd rfl (by first | exact Or.inl rfl | exact Or.inr rfl) (pe_op op_mod (pv 3) pe_int))
      (pss_cons (ps_if (pt_cmpR op_eq (pv 4) pe_int (nomark _))
      (pss_one (ps_ret (pe_callTy (r := HL.rTupOf K) HL.call_tupK (by rfl) T.n_tuple (by decide +kernel) (pa_cons (pe_lc (own := [("_law_k", 5)]) (g := gName 5) (tt := tYes) (by rfl) sc__law_ring.nd (pi_range1 (by rfl) T.n_range (pa_cons (pv 1) pa_nil)) (blkOk_by (N := ["_law_script", "_law_size_here", "_law_many_here", "_law_cell", "_law_way", "_law_k", "_law_at", "_law_low"]) (sc := defScope s__law_ring) (by decide +kernel)) (fun _ _ _ _ _ => pg_name (i := 5) sc__law_ring.nd rfl (Or.inl rfl)) (fun _ _ _ _ _ => pts_nil) (fun _ _ _ _ _ => (pe_op op_mod (pe_call (ok__law_cell_at T) (hr.mono (by decide)) (by rfl) T.g__law_cell_at T.F__law_cell_at.kp T.b__law_cell_at .nil pass0 (pa_cons (pv 0) (pa_cons (pe_op op_add pe_int (pv 5)) pa_nil))) (pv 2)))) pa_nil))))
      pss_nil)
      (pss_cons (ps_if (pt_cmpR op_eq (pv 4) pe_int (nomark _))
      (pss_one (ps_ret (pe_callTy (r := HL.rTupOf K) HL.call_tupK (by rfl) T.n_tuple (by decide +kernel) (pa_cons (pe_lc (own := [("_law_k", 5)]) (g := gName 5) (tt := tYes) (by rfl) sc__law_ring.nd (pi_range1 (by rfl) T.n_range (pa_cons (pv 1) pa_nil)) (blkOk_by (N := ["_law_script", "_law_size_here", "_law_many_here", "_law_cell", "_law_way", "_law_k", "_law_at", "_law_low"]) (sc := defScope s__law_ring) (by decide +kernel)) (fun _ _ _ _ _ => pg_name (i := 5) sc__law_ring.nd rfl (Or.inl rfl)) (fun _ _ _ _ _ => pts_nil) (fun _ _ _ _ _ => (pe_op op_mod (pe_call (ok__law_mixed T) (hr.mono (by decide)) (by rfl) T.g__law_mixed T.F__law_mixed.kp T.b__law_mixed .nil pass0 (pa_cons (pv 3) (pa_cons (pv 5) pa_nil))) (pe_callB (call_min2 rfl) (by rfl) T.n_min (by decide +kernel) (pa_cons (pv 2) (pa_cons (pe_op op_add pe_int (pe_op op_mod (pe_op op_fdiv (pv 3) pe_int) pe_int)) pa_nil)))))) pa_nil))))
      pss_nil)
      (pss_cons (ps_if (pt_cmpR op_eq (pv 4) pe_int (nomark _))
      (pss_cons (ps_set (i := 6) sc__law_ring.nd rfl (by first | exact Or.inl rfl | exact Or.inr rfl) (pe_op op_mod (pe_op op_fdiv (pv 3) pe_int) (pe_op op_add (pv 1) pe_int)))
      (pss_cons (ps_set (i := 7) sc__law_ring.nd rfl (by first | exact Or.inl rfl | exact Or.inr rfl) (pe_op op_mod (pe_op op_fdiv (pv 3) pe_int) (pv 2)))
      (pss_one (ps_ret (pe_op (r := HL.rCatB K) HL.op_catB (pe_op (r := HL.rRepA K) HL.op_repA (pe_tup (pa_cons (pv 7) pa_nil)) (pv 6)) (pe_op (r := HL.rRepA K) HL.op_repA (pe_tup (pa_cons (pe_op op_mod (pe_op op_fdiv (pv 3) pe_int) (pv 2)) pa_nil)) (pe_op op_sub (pv 1) (pv 6))))))))
      pss_nil)
      (pss_cons (ps_if (pt_cmpR op_eq (pv 4) pe_int (nomark _))
      (pss_one (ps_ret (pe_callTy (r := HL.rTupOf K) HL.call_tupK (by rfl) T.n_tuple (by decide +kernel) (pa_cons (pe_lc (own := [("_law_k", 5)]) (g := gName 5) (tt := tYes) (by rfl) sc__law_ring.nd (pi_range1 (by rfl) T.n_range (pa_cons (pv 1) pa_nil)) (blkOk_by (N := ["_law_script", "_law_size_here", "_law_many_here", "_law_cell", "_law_way", "_law_k", "_law_at", "_law_low"]) (sc := defScope s__law_ring) (by decide +kernel)) (fun _ _ _ _ _ => pg_name (i := 5) sc__law_ring.nd rfl (Or.inl rfl)) (fun _ _ _ _ _ => pts_nil) (fun _ _ _ _ _ => (pe_op op_mod (pe_op op_add (pe_op op_fdiv (pv 3) pe_int) (pe_op op_mul (pv 5) (pe_op op_add pe_int (pe_op op_mod (pe_op op_fdiv (pv 3) pe_int) pe_int)))) (pv 2)))) pa_nil))))
      pss_nil)
      (pss_one (ps_ret (pe_callTy (r := HL.rTupOf K) HL.call_tupK (by rfl) T.n_tuple (by decide +kernel) (pa_cons (pe_lc (own := [("_law_k", 5)]) (g := gName 5) (tt := tYes) (by rfl) sc__law_ring.nd (pi_range1 (by rfl) T.n_range (pa_cons (pv 1) pa_nil)) (blkOk_by (N := ["_law_script", "_law_size_here", "_law_many_here", "_law_cell", "_law_way", "_law_k", "_law_at", "_law_low"]) (sc := defScope s__law_ring) (by decide +kernel)) (fun _ _ _ _ _ => pg_name (i := 5) sc__law_ring.nd rfl (Or.inl rfl)) (fun _ _ _ _ _ => pts_nil) (fun _ _ _ _ _ => (pe_op op_mod (pe_call (ok__law_mixed T) (hr.mono (by decide)) (by rfl) T.g__law_mixed T.F__law_mixed.kp T.b__law_mixed .nil pass0 (pa_cons (pv 3) (pa_cons (pv 5) pa_nil))) (pv 2)))) pa_nil)))))))))), ?_⟩
    refine ⟨_, rfl, a, ns, 2, rfl, hS, hl, by decide, ?_⟩
    refine ⟨_, rfl, _, _, rfl, rfl, (by show (0 : Int) < 5; decide), ?_⟩
    refine ⟨_, rfl, rfl, _, rfl, ite2 (fun c0 => ?_) (fun c0 => ?_)⟩
    · have e0 : cell ns 2 % 5 = 0 := V.int.inj (of_decide_eq_true c0)
      unfold ring at q
      rw [if_pos e0] at q
      refine ⟨_, rfl, _, rfl, by omega, by omega, fun D hD => lc_range (lo := 0) (n := n.toNat) (fun i H' => ListAt H D (((List.range i).map fun k => cell ns (4 + k) % m).map V.int) H') (ListAt.mk0 (Same.refl H) hD) (fun i H' hi L => ?_) fun H' L => ?_⟩
      · refine ⟨rfl, tyes ?_⟩
        refine ⟨_, rfl, _, rfl, _, _, rfl, rfl, a, ns, 4 + (0 + (i : Int)), rfl, L.1.seq hS, hl, by omega, _, rfl, _, _, rfl, rfl, (by show 0 < m; omega), L.push (Same.refl H') ?_ ?_⟩
        · rw [List.length_map, List.length_map, List.length_range]
          omega
        · rw [range_map_succ, List.map_append, show (4 + (0 + (i : Int))).toNat = 4 + i by omega]
          rfl
      · exact ⟨D, _, rfl, .inl ⟨SqL.of L.2.2, fun t ht => q t _ (same_upd2 L.1 ht) (SqT.of upd_same)⟩⟩
    have e0 : ¬ cell ns 2 % 5 = 0 := fun z => c0 (decide_eq_true (congrArg V.int z))
    refine ⟨_, rfl, rfl, _, rfl, ite2 (fun c1 => ?_) (fun c1 => ?_)⟩
    · have e1 : cell ns 2 % 5 = 1 := V.int.inj (of_decide_eq_true c1)
      unfold ring at q
      rw [if_neg e0, if_pos e1] at q
      have d0 := Int.emod_nonneg (cell ns 2 / 5) (b := 3) (by decide)
      refine ⟨_, rfl, _, rfl, by omega, by omega, fun D hD => lc_range (lo := 0) (n := n.toNat) (fun i H' => ListAt H D (((List.range i).map fun k : Nat => mixed (cell ns 2) (k : Int) % (if 2 + cell ns 2 / 5 % 3 < m then 2 + cell ns 2 / 5 % 3 else m)).map V.int) H') (ListAt.mk0 (Same.refl H) hD) (fun i H' hi L => ?_) fun H' L => ?_⟩
      · refine ⟨rfl, tyes ?_⟩
        refine ⟨_, rfl, _, rfl, cell ns 2, 0 + (i : Int), rfl, by omega, by omega, _, rfl, _, rfl, _, _, rfl, rfl, ⟨by decide, by decide⟩, _, _, rfl, rfl, (by show (0 : Int) < 3; decide), _, _, rfl, rfl, _, _, rfl, _, _, rfl, rfl, ?_, L.push (Same.refl H') ?_ ?_⟩
        · show 0 < (if 2 + cell ns 2 / 5 % 3 < m then 2 + cell ns 2 / 5 % 3 else m)
          split <;> omega
        · rw [List.length_map, List.length_map, List.length_range]
          omega
        · rw [range_map_succ, List.map_append, show 0 + (i : Int) = i by omega]
          rfl
      · exact ⟨D, _, rfl, .inl ⟨SqL.of L.2.2, fun t ht => q t _ (same_upd2 L.1 ht) (SqT.of upd_same)⟩⟩
    have e1 : ¬ cell ns 2 % 5 = 1 := fun z => c1 (decide_eq_true (congrArg V.int z))
    refine ⟨_, rfl, rfl, _, rfl, ite2 (fun c2 => ?_) (fun c2 => ?_)⟩
    · have e2 : cell ns 2 % 5 = 2 := V.int.inj (of_decide_eq_true c2)
      unfold ring at q
      rw [if_neg e0, if_neg e1, if_pos e2] at q
      have a0 := Int.emod_nonneg (cell ns 2 / 5) (b := n + 1) (by omega)
      have a1 := Int.emod_lt_of_pos (cell ns 2 / 5) (b := n + 1) (by omega)
      refine ⟨_, rfl, _, _, rfl, rfl, ⟨by decide, by decide⟩, _, rfl, _, _, rfl, rfl, _, _, rfl, rfl, (by show 0 < n + 1; omega), ?_⟩
      refine ⟨_, rfl, _, _, rfl, rfl, ⟨by decide, by decide⟩, _, rfl, _, _, rfl, rfl, (by show 0 < m; omega), ?_⟩
      refine ⟨_, rfl, (by show 1 ≤ sizeLine; rw [sizeLine_eq]; decide), fun t1 h1 => ?_⟩
      refine ⟨_, rfl, t1, cell ns 2 / 5 % (n + 1), _, rfl, rfl, SqT.of upd_same, List.cons_ne_nil _ _, by omega, by omega, (by show 1 ≤ 1000; decide), fun p1 H1 s1 q1 => ?_⟩
      have k1 : Same H H1 := (same_new h1).trans s1
      refine ⟨_, rfl, _, _, rfl, rfl, ⟨by decide, by decide⟩, _, rfl, _, _, rfl, rfl, (by show 0 < m; omega), (by show 1 ≤ sizeLine; rw [sizeLine_eq]; decide), fun t2 h2 => ?_⟩
      refine ⟨_, rfl, _, rfl, _, _, rfl, rfl, t2, n - cell ns 2 / 5 % (n + 1), _, rfl, rfl, SqT.of upd_same, List.cons_ne_nil _ _, by omega, by omega, (by show 1 ≤ 1000; decide), fun p2 H2 s2 q2 => ?_⟩
      have k2 : Same H1 H2 := (same_new h2).trans s2
      have q1' := seqT_same k2 q1
      rw [flat_one] at q1'
      rw [flat_one] at q2
      refine ⟨p1, p2, _, _, rfl, rfl, q1', q2, ?_, fun p3 H3 s3 q3 => q p3 H3 ((k1.trans k2).trans s3) ?_⟩
      · rw [List.length_replicate, List.length_replicate, sizeLine_eq]
        omega
      · rw [List.map_append, List.map_replicate, List.map_replicate]
        exact q3
    have e2 : ¬ cell ns 2 % 5 = 2 := fun z => c2 (decide_eq_true (congrArg V.int z))
    refine ⟨_, rfl, rfl, _, rfl, ite2 (fun c3 => ?_) (fun c3 => ?_)⟩
    · have e3 : cell ns 2 % 5 = 3 := V.int.inj (of_decide_eq_true c3)
      unfold ring at q
      rw [if_neg e0, if_neg e1, if_neg e2, if_pos e3] at q
      refine ⟨_, rfl, _, rfl, by omega, by omega, fun D hD => lc_range (lo := 0) (n := n.toNat) (fun i H' => ListAt H D (((List.range i).map fun k : Nat => (cell ns 2 / 5 + (k : Int) * (1 + cell ns 2 / 500 % 3)) % m).map V.int) H') (ListAt.mk0 (Same.refl H) hD) (fun i H' hi L => ?_) fun H' L => ?_⟩
      · refine ⟨rfl, tyes ?_⟩
        refine ⟨_, rfl, _, _, rfl, rfl, ⟨by decide, by decide⟩, _, rfl, _, rfl, _, _, rfl, rfl, ⟨by decide, by decide⟩, _, _, rfl, rfl, (by show (0 : Int) < 3; decide), _, _, rfl, rfl, 0 + (i : Int), _, rfl, rfl, .inl ⟨by omega, by omega⟩, _, _, rfl, rfl, _, rfl, _, _, rfl, rfl, (by show 0 < m; omega), L.push (Same.refl H') ?_ ?_⟩
        · rw [List.length_map, List.length_map, List.length_range]
          omega
        · rw [range_map_succ, List.map_append, show 0 + (i : Int) = i by omega]
          rfl
      · exact ⟨D, _, rfl, .inl ⟨SqL.of L.2.2, fun t ht => q t _ (same_upd2 L.1 ht) (SqT.of upd_same)⟩⟩
    have e3 : ¬ cell ns 2 % 5 = 3 := fun z => c3 (decide_eq_true (congrArg V.int z))
    unfold ring at q
    rw [if_neg e0, if_neg e1, if_neg e2, if_neg e3] at q
    refine ⟨_, rfl, _, rfl, by omega, by omega, fun D hD => lc_range (lo := 0) (n := n.toNat) (fun i H' => ListAt H D (((List.range i).map fun k : Nat => mixed (cell ns 2) (k : Int) % m).map V.int) H') (ListAt.mk0 (Same.refl H) hD) (fun i H' hi L => ?_) fun H' L => ?_⟩
    · refine ⟨rfl, tyes ?_⟩
      refine ⟨_, rfl, _, rfl, cell ns 2, 0 + (i : Int), rfl, by omega, by omega, _, rfl, _, _, rfl, rfl, (by show 0 < m; omega), L.push (Same.refl H') ?_ ?_⟩
      · rw [List.length_map, List.length_map, List.length_range]
        omega
      · rw [range_map_succ, List.map_append, show 0 + (i : Int) = i by omega]
        rfl
    · exact ⟨D, _, rfl, .inl ⟨SqL.of L.2.2, fun t ht => q t _ (same_upd2 L.1 ht) (SqT.of upd_same)⟩⟩

/-! ### check_machines -/
def sp_check_machines (cs : List Addr) : Sp := fun vs H Q E => ∃ (m : Int), vs = [.int m] ∧ ((m < 2 ∨ 12 < m) → ∀ C, cs[1]? = some C → E (.ref C) none H) ∧ (¬ (m < 2 ∨ 12 < m) → Q .non H)
theorem ok_check_machines (T : Top K mg base) : FnOk P w K mg base (L2N.CX P w) 1 T.f_check_machines T.d_check_machines ["machines"] (sp_check_machines T.cs) := by
  refine okN T.F_check_machines sc_check_machines (fun vs H Q E h => ?_) (fun cdv A outer s H vs Q E hr h => ?_)
  · obtain ⟨m, rfl, kE, kQ⟩ := h
    rfl
  · obtain ⟨m, rfl, kE, kQ⟩ := h
    refine ⟨_, (pss_one (ps_if (PW.pt (pw_or (pt_cmpR op_lt (pv 0) (pe_glob (v := .int 2) rfl T.g_FEWEST_MACHINES ⟨_, rfl⟩) (nomark _)) (pw_or1 (pt_cmpR op_gt (pv 0) (pe_glob (v := .int 12) rfl T.g_MOST_MACHINES ⟨_, rfl⟩) (nomark _)))))
      (pss_one (L2N.ps_raise rfl (L2N.takes_of rfl rfl rfl rfl) (L2N.pmk_own PySem.F.excBase_ValueError T.ex_NoRing.ex T.ex_NoRing.gl T.ex_NoRing.kp (raises_own T.ex_NoRing.ba T.ex_NoRing.ty) rfl)))
      pss_nil)), ?_⟩
    refine ⟨_, rfl, _, _, rfl, rfl, _, rfl, ite2 (fun c => ?_) (fun c => ?_)⟩
    · exact iteT (kE (Or.inl (of_decide_eq_true c)) _ rfl)
    have c1 : ¬ m < 2 := fun z => c (decide_eq_true z)
    refine ⟨_, rfl, _, _, rfl, rfl, _, rfl, ite2 (fun c => ?_) (fun c => ?_)⟩
    · exact kE (Or.inr (of_decide_eq_true c)) _ rfl
    · have c2 : ¬ 12 < m := fun z => c (decide_eq_true z)
      exact kQ (by omega)

/-! ### most -/
def sp_most (cs : List Addr) : Sp := fun vs H Q E => ∃ (n : Int), vs = [.int n] ∧ ((n < 2 ∨ 12 < n) → ∀ C, cs[1]? = some C → E (.ref C) none H) ∧ (¬ (n < 2 ∨ 12 < n) → Q (.int (3 * n * (n - 1) / 2)) H)
theorem ok_most (T : Top K mg base) : FnOk P w K mg base (L2N.CX P w) 2 T.f_most T.d_most ["machines"] (sp_most T.cs) := by
  refine okN T.F_most sc_most (fun vs H Q E h => ?_) (fun cdv A outer s H vs Q E hr h => ?_)
  · obtain ⟨n, rfl, kE, kQ⟩ := h
    rfl
  · obtain ⟨n, rfl, kE, kQ⟩ := h
    refine ⟨_, (pss_cons (ps_expr (pe_call (ok_check_machines T) (hr.mono (by decide)) (by rfl) T.g_check_machines T.F_check_machines.kp T.b_check_machines .nil (fun _ _ _ _ _ _ i c => L2N.passes_call (L2N.takes_of rfl rfl rfl rfl) (fun _ _ _ _ h => h) _ _ _ _ _ _ i c) (pa_cons (pv 0) pa_nil)))
      (pss_one (ps_ret (pe_op op_fdiv (pe_op op_mul (pe_op op_mul pe_int (pv 0)) (pe_op op_sub (pv 0) pe_int)) pe_int)))), ?_⟩
    refine ⟨_, rfl, n, rfl, kE, fun c => ?_⟩
    refine ⟨_, rfl, _, _, rfl, rfl, .inl ⟨by decide, by decide⟩, _, rfl, _, _, rfl, rfl, _, _, rfl, rfl, .inl ⟨by omega, by omega⟩, _, _, rfl, rfl, ⟨by decide, by decide⟩, kQ c⟩

/-! ### check_many -/
/-! the refusals: HRMath -/
def sp_check_many (cs : List Addr) : Sp := fun vs H Q E => ∃ (m : Int), vs = [.int m] ∧ ((m < 2 ∨ 100 < m) → ∀ C, cs[0]? = some C → E (.ref C) none H) ∧ (¬ (m < 2 ∨ 100 < m) → Q .non H)
theorem ok_check_many (T : Top K mg base) : FnOk P w K mg base (L2N.CX P w) 1 T.f_check_many T.d_check_many ["many"] (sp_check_many T.cs) := by
  refine okN T.F_check_many sc_check_many (fun vs H Q E h => ?_) (fun cdv A outer s H vs Q E hr h => ?_)
  · obtain ⟨m, rfl, kE, kQ⟩ := h
    rfl
  · obtain ⟨m, rfl, kE, kQ⟩ := h
    refine ⟨_, (pss_one (ps_if (PW.pt (pw_or (pt_cmpR op_lt (pv 0) (pe_glob (v := .int 2) rfl T.g_FEWEST_NUMBERS ⟨_, rfl⟩) (nomark _)) (pw_or1 (pt_cmpR op_gt (pv 0) (pe_glob (v := .int 100) rfl T.g_MOST_NUMBERS ⟨_, rfl⟩) (nomark _)))))
      (pss_one (L2N.ps_raise rfl (L2N.takes_of rfl rfl rfl rfl) (L2N.pmk_own PySem.F.excBase_ValueError T.ex_NoNumbers.ex T.ex_NoNumbers.gl T.ex_NoNumbers.kp (raises_own T.ex_NoNumbers.ba T.ex_NoNumbers.ty) rfl)))
      pss_nil)), ?_⟩
    refine ⟨_, rfl, _, _, rfl, rfl, _, rfl, ite2 (fun c => ?_) (fun c => ?_)⟩
    · exact iteT (kE (Or.inl (of_decide_eq_true c)) _ rfl)
    have c1 : ¬ m < 2 := fun z => c (decide_eq_true z)
    refine ⟨_, rfl, _, _, rfl, rfl, _, rfl, ite2 (fun c => ?_) (fun c => ?_)⟩
    · exact kE (Or.inr (of_decide_eq_true c)) _ rfl
    · have c2 : ¬ 100 < m := fun z => c (decide_eq_true z)
      exact kQ (by omega)

/-! ### check_ring -/
def sp_check_ring (K : PySem.W.Frag) (cs : List Addr) : Sp := fun vs H Q E => ∃ (a : Addr) (r : List Int) (m : Int), vs = [.ref a, .int m] ∧ SqT K H a (r.map V.int) ∧ r.length ≤ 1000 ∧
  (∀ j, refuse r m = some j → ∀ C, cs[j]? = some C → E (.ref C) none H) ∧ (refuse r m = none → Q .non H)
theorem ok_check_ring (T : Top K mg base) : FnOk P w K mg base (L2N.CX P w) 2 T.f_check_ring T.d_check_ring ["ring", "many"] (sp_check_ring K T.cs) := by
  refine okN T.F_check_ring sc_check_ring (fun vs H Q E h => ?_) (fun cdv A outer s H vs Q E hr h => ?_)
  · obtain ⟨a, r, m, rfl, hS, hl, kE, kQ⟩ := h
    rfl
  · obtain ⟨a, r, m, rfl, hS, hl, kE, kQ⟩ := h
    refine ⟨_, (pss_cons (ps_expr (pe_call (ok_check_many T) (hr.mono (by decide)) (by rfl) T.g_check_many T.F_check_many.kp T.b_check_many .nil (fun _ _ _ _ _ _ i c => L2N.passes_call (L2N.takes_of rfl rfl rfl rfl) (fun _ _ _ _ h => h) _ _ _ _ _ _ i c) (pa_cons (pv 1) pa_nil)))
      (pss_cons (ps_expr (pe_call (ok_check_machines T) (hr.mono (by decide)) (by rfl) T.g_check_machines T.F_check_machines.kp T.b_check_machines .nil (fun _ _ _ _ _ _ i c => L2N.passes_call (L2N.takes_of rfl rfl rfl rfl) (fun _ _ _ _ h => h) _ _ _ _ _ _ i c) (pa_cons (pe_callB (r := HL.rLen K) HL.call_lenK (by rfl) T.n_len (by decide +kernel) (pa_cons (pv 0) pa_nil)) pa_nil)))
      (pss_one (ps_for (passes_of rfl) rfl (pi_tup (pv 0)) (pg_name (i := 2) sc_check_ring.nd rfl (by first | exact Or.inl rfl | exact Or.inr rfl))
      (pss_one (ps_if (PW.pt (pw_or (pt_cmpR op_lt (pv 2) pe_int (nomark _)) (pw_or1 (pt_cmpR op_ge (pv 2) (pv 1) (nomark _)))))
      (pss_one (L2N.ps_raise rfl (L2N.takes_of rfl rfl rfl rfl) (L2N.pmk_own PySem.F.excBase_ValueError T.ex_NoRing.ex T.ex_NoRing.gl T.ex_NoRing.kp (raises_own T.ex_NoRing.ba T.ex_NoRing.ty) rfl)))
      pss_nil)))))), ?_⟩
    refine ⟨_, rfl, m, rfl, fun c C hC => ?_, fun c => ?_⟩
    · exact kE 0 (if_pos c) C hC
    have e1 : ∀ {p : Prop}, (p → badRing r m) → p → refuse r m = some 1 := fun hp h => by
      unfold refuse
      rw [if_neg c, if_pos (hp h)]
    refine ⟨_, rfl, a, _, rfl, .inr hS, _, rfl, fun c1 C hC => ?_, fun c1 => ?_⟩
    · rw [List.length_map] at c1
      exact kE 1 (e1 (fun z => z) (c1.elim (fun z => Or.inl (by omega)) fun z => Or.inr (Or.inl (by omega)))) C hC
    rw [List.length_map] at c1
    have d1 : ¬ (r.length : Int) < 2 := fun z => c1 (Or.inl z)
    have d2 : ¬ 12 < (r.length : Int) := fun z => c1 (Or.inr z)
    refine ⟨_, rfl, a, rfl, ⟨_, hS⟩, for_tup (K := K) (a := a) (xs := r.map V.int) (fun i σ H' => H' = H ∧ (∃ v, σ = [some (.ref a), some (.int m), v]) ∧ ∀ j, j < i → 0 ≤ r.getD j 0 ∧ r.getD j 0 < m) ⟨rfl, ⟨_, rfl⟩, fun j hj => absurd hj (Nat.not_lt_zero j)⟩ (fun i σ H' _ z => by rw [z.1]; exact hS) ?_ ?_⟩
    · rintro i y σ H' hi ⟨rfl, ⟨v, rfl⟩, ok⟩
      have hi2 : i < r.length := by
        have := (List.getElem?_eq_some_iff.mp hi).1
        rw [List.length_map] at this
        exact this
      have ey : y = .int (r.getD i 0) := by
        rw [List.getElem?_map, List.getElem?_eq_getElem hi2] at hi
        rw [List.getD_eq_getElem?_getD, List.getElem?_eq_getElem hi2]
        exact (Option.some.inj hi).symm
      subst ey
      have bad : ∀ {q : Prop}, q → (q → r.getD i 0 < 0 ∨ m ≤ r.getD i 0) → refuse r m = some 1 := fun h hq => e1 (fun z => Or.inr (Or.inr ⟨_, getD_mem hi2, hq z⟩)) h
      refine ⟨_, rfl, _, _, rfl, rfl, _, rfl, ite2 (fun c3 => ?_) (fun c3 => ?_)⟩
      · exact iteT (kE 1 (bad (of_decide_eq_true c3) Or.inl) _ rfl)
      have d3 : ¬ r.getD i 0 < 0 := fun z => c3 (decide_eq_true z)
      refine ⟨_, rfl, _, rfl, _, _, rfl, rfl, _, rfl, ite2 (fun c4 => ?_) (fun c4 => ?_)⟩
      · exact kE 1 (bad (of_decide_eq_true c4) Or.inr) _ rfl
      have d4 : ¬ m ≤ r.getD i 0 := fun z => c4 (decide_eq_true z)
      refine ⟨rfl, ⟨_, rfl⟩, fun j hj => ?_⟩
      by_cases e : j = i
      · subst e
        omega
      · exact ok j (by omega)
    · rintro σ H' ⟨rfl, ⟨v, rfl⟩, ok⟩
      refine kQ ?_
      unfold refuse
      rw [if_neg c, if_neg]
      rintro (h | h | ⟨x, hx, h⟩)
      · omega
      · omega
      · obtain ⟨k, hk, e⟩ := mem_getD hx
        have := ok k (by rw [List.length_map]; exact hk)
        rw [e] at this
        omega

/-! ### may_step -/
def prev (r : List Int) (k : Nat) : Int := if k = 0 then r.getD (r.length - 1) 0 else r.getD (k - 1) 0
theorem at_prev {r : List Int} {k : Nat} (h : k < r.length) : atI (r.map V.int) ((k : Int) - 1) = some (.int (prev r k)) := by
  unfold prev
  by_cases k0 : k = 0
  · subst k0
    rw [if_pos rfl]
    exact at_end (by omega)
  · rw [if_neg k0]
    exact at_int (by omega) (by omega)
theorem may_prev (r : List Int) (k : Nat) : may r k = if k = 0 then decide (r.getD k 0 = prev r k) else !decide (r.getD k 0 = prev r k) := by
  unfold may prev
  by_cases k0 : k = 0
  · subst k0
    rfl
  · rw [if_neg k0, if_neg k0, if_neg k0]
def sp_may_step (K : PySem.W.Frag) : Sp := fun vs H Q _ => ∃ (a : Addr) (r : List Int) (k : Nat), vs = [.ref a, .int k] ∧ SqT K H a (r.map V.int) ∧ k < r.length ∧ Q (.bl (may r k)) H
theorem ok_may_step (T : Top K mg base) : FnOk P w K mg base CX0 1 T.f_may_step T.d_may_step ["ring", "machine"] (sp_may_step K) := by
  refine T.F_may_step.ok sc_may_step (fun vs H Q E h => ?_) (fun cdv A outer s H vs Q E hr h => ?_)
  · obtain ⟨a, r, k, rfl, hS, hk, q⟩ := h
    rfl
  · obtain ⟨a, r, k, rfl, hS, hk, q⟩ := h
    refine ⟨_, (pss_cons (ps_set (i := 2) sc_may_step.nd rfl (by first | exact Or.inl rfl | exact Or.inr rfl) (pe_cmpR op_eq (pe_ix (r := rIxT K) ix_tup (pv 0) (pv 1) (fun _ _ => rfl)) (pe_ix (r := rIxT K) ix_tup (pv 0) (pe_op op_sub (pv 1) pe_int) (fun _ _ => rfl)) (nomark _)))
      (pss_one (ps_ret (pe_ifExp (pt_cmpR op_eq (pv 1) pe_int (nomark _)) (pv 2) (pe_not (pv 2)))))), ?_⟩
    rw [may_prev] at q
    refine ⟨_, rfl, _, rfl, a, _, k, _, rfl, rfl, hS, at_int rfl hk, _, rfl, _, rfl, _, _, rfl, rfl, a, _, (k : Int) - 1, _, rfl, rfl, hS, at_prev hk, rfl, ?_⟩
    rw [dec_int2]
    refine ⟨_, rfl, rfl, _, rfl, ite2 (fun c => ?_) (fun c => ?_)⟩
    · have e : k = 0 := by
        have z := V.int.inj (of_decide_eq_true c)
        omega
      rw [if_pos e] at q
      exact ⟨_, rfl, q⟩
    · have e : ¬ k = 0 := fun z => c (decide_eq_true (by rw [z]; rfl))
      rw [if_neg e] at q
      exact ⟨_, rfl, _, rfl, q⟩

/-! ### able -/
def sp_able (K : PySem.W.Frag) (cs : List Addr) : Sp := fun vs H Q E => ∃ (a : Addr) (r : List Int) (m : Int), vs = [.ref a, .int m] ∧ SqT K H a (r.map V.int) ∧ r.length ≤ 1000 ∧
  (∀ j, refuse r m = some j → ∀ C, cs[j]? = some C → E (.ref C) none H) ∧ (refuse r m = none → ∀ p H', ListAt H p (ableV r) H' → Q (.ref p) H')
theorem ok_able (T : Top K mg base) : FnOk P w K mg base (L2N.CX P w) 3 T.f_able T.d_able ["ring", "many"] (sp_able K T.cs) := by
  refine okN T.F_able sc_able (fun vs H Q E h => ?_) (fun cdv A outer s H vs Q E hr h => ?_)
  · obtain ⟨a, r, m, rfl, hS, hl, kE, kQ⟩ := h
    rfl
  · obtain ⟨a, r, m, rfl, hS, hl, kE, kQ⟩ := h
    refine ⟨_, (pss_cons (ps_expr (pe_call (ok_check_ring T) (hr.mono (by decide)) (by rfl) T.g_check_ring T.F_check_ring.kp T.b_check_ring .nil (fun _ _ _ _ _ _ i c => L2N.passes_call (L2N.takes_of rfl rfl rfl rfl) (fun _ _ _ _ h => h) _ _ _ _ _ _ i c) (pa_cons (pv 0) (pa_cons (pv 1) pa_nil))))
      (pss_one (ps_ret (pe_lc (own := [("machine", 2)]) (g := gName 2) (by rfl) sc_able.nd (pi_range1 (by rfl) T.n_range (pa_cons (pe_callB (r := HL.rLen K) HL.call_lenK (by rfl) T.n_len (by decide +kernel) (pa_cons (pv 0) pa_nil)) pa_nil)) (blkOk_by (N := ["ring", "many", "machine"]) (sc := defScope s_able) (by decide +kernel)) (fun _ _ _ _ _ => pg_name (i := 2) sc_able.nd rfl (Or.inl rfl)) (fun _ _ _ _ _ => pts_one (pt_val (pe_call (ok_may_step T) (hr.mono (by decide)) (by rfl) T.g_may_step T.F_may_step.kp T.b_may_step .nil pass0 (pa_cons (pv 0) (pa_cons (pv 2) pa_nil))))) (fun _ _ _ _ _ => (pv 2)))))), ?_⟩
    refine ⟨_, rfl, _, rfl, a, r, m, rfl, hS, hl, kE, fun hg => ?_⟩
    refine ⟨_, rfl, a, _, rfl, .inr hS, (r.length : Int), by rw [List.length_map], by omega, by omega, fun D hD => lc_range (lo := 0) (n := r.length) (fun i H' => ListAt H D (ableTo r i) H') (ListAt.mk0 (Same.refl H) hD) (fun i H' hi L => ?_) fun H' L => ?_⟩
    · refine ⟨rfl, _, rfl, _, rfl, a, r, i, congrArg (fun t => [V.ref a, V.int t]) (by omega), seqT_same L.1 hS, hi, _, rfl, ite2 (fun my => ?_) (fun my => ?_)⟩
      · refine ⟨_, rfl, L.push (Same.refl H') (Nat.le_trans (ableTo_len r i) (by omega)) ?_⟩
        rw [ableTo_yes my, show (0 : Int) + (i : Int) = i by omega]
      · rw [ableTo_no (Bool.eq_false_iff.mpr my)]
        exact L
    · exact kQ hg D H' L

/-! ### _law_pick -/
def sp__law_pick (K : PySem.W.Frag) : Sp := fun vs H Q _ => ∃ (f : Addr) (ks : List Nat) (a : Addr) (ns : List Int) (i : Nat), vs = [.ref f, .ref a, .int (i : Int)] ∧ SqL K H f (ordV ks) ∧ 0 < ks.length ∧ ks.length ≤ 12 ∧ SqL K H a (ns.map V.int) ∧ ns.length ≤ 63 ∧ i ≤ 1000 ∧ ∀ x ∈ ks, ∀ H', Same H H' → Q (.int (x : Nat)) H'
theorem ok__law_pick (T : Top K mg base) : FnOk P w K mg base CX0 2 T.f__law_pick T.d__law_pick ["_law_free", "_law_script", "_law_k"] (sp__law_pick K) := by
  refine T.F__law_pick.ok sc__law_pick (fun vs H Q E h => ?_) (fun cdv A outer s H vs Q E hr h => ?_)
  · obtain ⟨f, ks, a, ns, i, rfl, hF, h0, h12, hS, hl, hi, q⟩ := h
    rfl
  · obtain ⟨f, ks, a, ns, i, rfl, hF, h0, h12, hS, hl, hi, q⟩ := h
    refine ⟨_, (pss_cons (ps_set (i := 3) sc__law_pick.nd rfl (by first | exact Or.inl rfl | exact Or.inr rfl) (pe_op op_mod (pe_call (ok__law_cell_at T) (hr.mono (by decide)) (by rfl) T.g__law_cell_at T.F__law_cell_at.kp T.b__law_cell_at .nil pass0 (pa_cons (pv 1) (pa_cons pe_int pa_nil))) pe_int))
      (pss_cons (ps_if (pt_cmpR op_eq (pv 3) pe_int (nomark _))
      (pss_one (ps_ret (pe_ix (r := rIxL K) ix_list (pv 0) pe_int (fun _ _ => rfl))))
      pss_nil)
      (pss_cons (ps_if (pt_cmpR op_eq (pv 3) pe_int (nomark _))
      (pss_one (ps_ret (pe_ix (r := rIxL K) ix_list (pv 0) (pe_un un_neg pe_int) (fun _ _ => rfl))))
      pss_nil)
      (pss_cons (ps_if (pt_cmpR op_eq (pv 3) pe_int (nomark _))
      (pss_one (ps_ret (pe_ix (r := rIxL K) ix_list (pv 0) (pe_op op_mod (pv 2) (pe_callB (r := HL.rLen K) HL.call_lenK (by rfl) T.n_len (by decide +kernel) (pa_cons (pv 0) pa_nil))) (fun _ _ => rfl))))
      pss_nil)
      (pss_cons (ps_if (pt_cmpR op_eq (pv 3) pe_int (nomark _))
      (pss_one (ps_ret (pe_ix (r := rIxL K) ix_list (pe_op op_cat (pe_slice (r := rSlL K) sl_list (pv 0) (po_some pe_int) po_none) (pe_slice (r := rSlL K) sl_list (pv 0) po_none (po_some pe_int))) pe_int (fun _ _ => rfl))))
      pss_nil)
      (pss_one (ps_ret (pe_ix (r := rIxL K) ix_list (pv 0) (pe_op op_mod (pe_call (ok__law_mixed T) (hr.mono (by decide)) (by rfl) T.g__law_mixed T.F__law_mixed.kp T.b__law_mixed .nil pass0 (pa_cons (pe_call (ok__law_cell_at T) (hr.mono (by decide)) (by rfl) T.g__law_cell_at T.F__law_cell_at.kp T.b__law_cell_at .nil pass0 (pa_cons (pv 1) (pa_cons pe_int pa_nil))) (pa_cons (pv 2) pa_nil))) (pe_callB (r := HL.rLen K) HL.call_lenK (by rfl) T.n_len (by decide +kernel) (pa_cons (pv 0) pa_nil))) (fun _ _ => rfl))))))))), ?_⟩
    have mem : ∀ {j : Nat}, j < ks.length → ks.getD j 0 ∈ ks := fun {j} h => by
      rw [List.getD_eq_getElem?_getD, List.getElem?_eq_getElem h]
      exact List.getElem_mem h
    have lk : ((ordV ks).length : Int) = (ks.length : Int) := by rw [ordV_len]
    refine ⟨_, rfl, a, ns, 3, rfl, hS, hl, by decide, _, _, rfl, rfl, (by show (0 : Int) < 5; decide), ?_⟩
    refine ⟨_, rfl, rfl, _, rfl, ite2 (fun c => ?_) (fun c => ?_)⟩
    · exact ⟨_, rfl, f, _, 0, _, rfl, rfl, hF, ordV_at (k := 0) rfl h0, q _ (mem h0) H (Same.refl H)⟩
    refine ⟨_, rfl, rfl, _, rfl, ite2 (fun c => ?_) (fun c => ?_)⟩
    · refine ⟨_, rfl, 1, rfl, f, _, -1, _, rfl, rfl, hF, at_lastN (n := ks.length - 1) (v := .int (ks.getD (ks.length - 1) 0 : Nat)) (by rw [ordV_len]; omega) ?_, q _ (mem (by omega)) H (Same.refl H)⟩
      unfold ordV
      rw [List.getElem?_map, List.getElem?_eq_getElem (by omega), List.getD_eq_getElem?_getD, List.getElem?_eq_getElem (by omega)]
      rfl
    refine ⟨_, rfl, rfl, _, rfl, ite2 (fun c => ?_) (fun c => ?_)⟩
    · have d1 := Nat.mod_lt i (show ks.length > 0 by omega)
      refine ⟨_, rfl, _, rfl, _, rfl, f, _, rfl, .inl hF, _, _, rfl, rfl, (by rw [lk]; show (0 : Int) < (ks.length : Int); omega), ?_⟩
      rw [lk]
      exact ⟨f, _, _, _, rfl, rfl, hF, ordV_at (k := i % ks.length) (by simp) d1, q _ (mem d1) H (Same.refl H)⟩
    refine ⟨_, rfl, rfl, _, rfl, ite2 (fun c => ?_) (fun c => ?_)⟩
    · refine ⟨_, rfl, 1, rfl, f, _, rfl, hF, fun u hu => ?_⟩
      refine ⟨_, rfl, 1, rfl, f, _, rfl, seqL_upd hF hu, fun w hw => ?_⟩
      have e1 : cutV (ordV ks) (some 1) none = ordV (ks.drop 1) := by
        have := cut_from (ordV ks) 1
        rw [show ((1 : Nat) : Int) = 1 from rfl] at this
        rw [this]
        unfold ordV
        rw [List.map_drop]
      have e2 : cutV (ordV ks) none (some 1) = ordV (ks.take 1) := by
        have := cut_to (ordV ks) 1
        rw [show ((1 : Nat) : Int) = 1 from rfl] at this
        rw [this]
        unfold ordV
        rw [List.map_take]
      refine ⟨u, w, _, _, rfl, rfl, (same_new hw) _ _ upd_same, upd_same, ?_, fun v hv => ?_⟩
      · rw [e1, e2, ordV_len, ordV_len, List.length_drop, List.length_take, sizeLine_eq]
        omega
      have e3 : cutV (ordV ks) (some 1) none ++ cutV (ordV ks) none (some 1) = ordV (ks.drop 1 ++ ks.take 1) := by
        rw [e1, e2]
        unfold ordV
        rw [List.map_append]
      have hl3 : 0 < (ks.drop 1 ++ ks.take 1).length := by rw [List.length_append, List.length_drop, List.length_take]; omega
      have m3 : (ks.drop 1 ++ ks.take 1).getD 0 0 ∈ ks := by
        have : (ks.drop 1 ++ ks.take 1).getD 0 0 ∈ ks.drop 1 ++ ks.take 1 := by
          rw [List.getD_eq_getElem?_getD, List.getElem?_eq_getElem hl3]
          exact List.getElem_mem hl3
        rcases List.mem_append.mp this with z | z
        · exact List.mem_of_mem_drop z
        · exact List.mem_of_mem_take z
      exact ⟨v, _, 0, _, rfl, rfl, SqL.of (upd_same.trans (congrArg (fun z => some (HO.lst z)) e3)), ordV_at (k := 0) rfl hl3, q _ m3 _ (same_upd2 (same_upd2 (same_new hu) hw) hv)⟩
    · refine ⟨_, rfl, _, rfl, a, ns, 3, rfl, hS, hl, by decide, _, rfl, cell ns 3, (i : Int), rfl, by omega, by omega, _, rfl, f, _, rfl, .inl hF, _, _, rfl, rfl, (by rw [lk]; show (0 : Int) < (ks.length : Int); omega), ?_⟩
      rw [lk]
      have d0 := Int.emod_nonneg (mixed (cell ns 3) (i : Int)) (b := (ks.length : Int)) (by omega)
      have d1 := Int.emod_lt_of_pos (mixed (cell ns 3) (i : Int)) (b := (ks.length : Int)) (by omega)
      exact ⟨f, _, _, _, rfl, rfl, hF, ordV_at (k := (mixed (cell ns 3) (i : Int) % (ks.length : Int)).toNat) (Int.toNat_of_nonneg d0).symm (by omega), q _ (mem (by omega)) H (Same.refl H)⟩

/-! ### check_machine -/
def sp_check_machine (cs : List Addr) : Sp := fun vs H Q E => ∃ (z n : Int), vs = [.int z, .int n] ∧ ((z < 0 ∨ n ≤ z) → ∀ C, cs[2]? = some C → E (.ref C) none H) ∧ (¬ (z < 0 ∨ n ≤ z) → Q .non H)
theorem ok_check_machine (T : Top K mg base) : FnOk P w K mg base (L2N.CX P w) 1 T.f_check_machine T.d_check_machine ["machine", "machines"] (sp_check_machine T.cs) := by
  refine okN T.F_check_machine sc_check_machine (fun vs H Q E h => ?_) (fun cdv A outer s H vs Q E hr h => ?_)
  · obtain ⟨z, n, rfl, kE, kQ⟩ := h
    rfl
  · obtain ⟨z, n, rfl, kE, kQ⟩ := h
    refine ⟨_, (pss_one (ps_if (PW.pt (pw_or (pt_cmpR op_lt (pv 0) pe_int (nomark _)) (pw_or1 (pt_cmpR op_ge (pv 0) (pv 1) (nomark _)))))
      (pss_one (L2N.ps_raise rfl (L2N.takes_of rfl rfl rfl rfl) (L2N.pmk_own PySem.F.excBase_ValueError T.ex_NoMachine.ex T.ex_NoMachine.gl T.ex_NoMachine.kp (raises_own T.ex_NoMachine.ba T.ex_NoMachine.ty) rfl)))
      pss_nil)), ?_⟩
    refine ⟨_, rfl, _, _, rfl, rfl, _, rfl, ite2 (fun c => ?_) (fun c => ?_)⟩
    · exact iteT (kE (Or.inl (of_decide_eq_true c)) _ rfl)
    have c1 : ¬ z < 0 := fun y => c (decide_eq_true y)
    refine ⟨_, rfl, _, rfl, _, _, rfl, rfl, _, rfl, ite2 (fun c => ?_) (fun c => ?_)⟩
    · exact kE (Or.inr (of_decide_eq_true c)) _ rfl
    · have c2 : ¬ n ≤ z := fun y => c (decide_eq_true y)
      exact kQ (by omega)

/-! ### taken -/
theorem nxt_zero {m : Int} {r : List Int} (h0 : 0 ≤ r.getD 0 0) (h1 : r.getD 0 0 < m) : nxt m r 0 = if r.getD 0 0 = m - 1 then 0 else r.getD 0 0 + 1 := by
  unfold nxt
  rw [if_pos rfl]
  split
  · rename_i e
    rw [show r.getD 0 0 + 1 = m by omega, Int.emod_self]
  · exact Int.emod_eq_of_lt (by omega) (by omega)
def sp_taken (K : PySem.W.Frag) : Sp := fun vs H Q _ => ∃ (a : Addr) (r : List Int) (m : Int) (k : Nat), vs = [.ref a, .int m, .int k] ∧ SqT K H a (r.map V.int) ∧ k < r.length ∧ 0 ≤ r.getD 0 0 ∧ r.getD 0 0 < m ∧ Q (.int (nxt m r k)) H
theorem ok_taken (T : Top K mg base) : FnOk P w K mg base CX0 1 T.f_taken T.d_taken ["ring", "many", "machine"] (sp_taken K) := by
  refine T.F_taken.ok sc_taken (fun vs H Q E h => ?_) (fun cdv A outer s H vs Q E hr h => ?_)
  · obtain ⟨a, r, m, k, rfl, hS, hk, h0, h1, q⟩ := h
    rfl
  · obtain ⟨a, r, m, k, rfl, hS, hk, h0, h1, q⟩ := h
    refine ⟨_, (pss_cons (ps_if (pt_cmpR op_gt (pv 2) pe_int (nomark _))
      (pss_one (ps_ret (pe_ix (r := rIxT K) ix_tup (pv 0) (pe_op op_sub (pv 2) pe_int) (fun _ _ => rfl))))
      pss_nil)
      (pss_cons (ps_set (i := 3) sc_taken.nd rfl (by first | exact Or.inl rfl | exact Or.inr rfl) (pe_op op_sub (pv 1) pe_int))
      (pss_one (ps_ret (pe_ifExp (pt_cmpR op_eq (pe_ix (r := rIxT K) ix_tup (pv 0) pe_int (fun _ _ => rfl)) (pv 3) (nomark _)) pe_int (pe_op op_add (pe_ix (r := rIxT K) ix_tup (pv 0) pe_int (fun _ _ => rfl)) pe_int)))))), ?_⟩
    refine ⟨_, rfl, _, _, rfl, rfl, _, rfl, ite2 (fun c => ?_) (fun c => ?_)⟩
    · have c1 := of_decide_eq_true c
      have k0 : ¬ k = 0 := by omega
      have e : nxt m r k = r.getD (k - 1) 0 := by
        unfold nxt
        rw [if_neg k0]
      rw [e] at q
      exact ⟨_, rfl, _, rfl, _, _, rfl, rfl, a, _, (k : Int) - 1, _, rfl, rfl, hS, at_int (k := k - 1) (by omega) (by omega), q⟩
    · have k0 : k = 0 := by
        have z : ¬ (0 : Int) < k := fun z => c (decide_eq_true z)
        omega
      subst k0
      rw [nxt_zero h0 h1] at q
      refine ⟨_, rfl, _, _, rfl, rfl, ?_⟩
      refine ⟨_, rfl, a, _, 0, _, rfl, rfl, hS, at_int (k := 0) rfl hk, _, rfl, rfl, _, rfl, ite2 (fun c1 => ?_) (fun c1 => ?_)⟩
      · rw [if_pos (V.int.inj (of_decide_eq_true c1))] at q
        exact q
      · rw [if_neg (fun z => c1 (decide_eq_true (congrArg V.int z)))] at q
        exact ⟨_, rfl, a, _, 0, _, rfl, rfl, hS, at_int (k := 0) rfl hk, _, _, rfl, rfl, q⟩

/-! ### after -/
theorem set_cut {r : List Int} {k : Nat} (h : k < r.length) (x : Int) : (r.map V.int).take k ++ (V.int x :: (r.map V.int).drop (k + 1)) = (r.set k x).map V.int := by
  rw [List.set_eq_take_append_cons_drop, if_pos h, List.map_append, List.map_cons, List.map_take, List.map_drop]
def sp_after (K : PySem.W.Frag) (cs : List Addr) : Sp := fun vs H Q E => ∃ (a : Addr) (r : List Int) (m z : Int) (n : Nat), vs = [.ref a, .int m, .int z] ∧ SqT K H a (r.map V.int) ∧ Good n m r ∧
  (∀ j, refuseAt r z = some j → ∀ C, cs[j]? = some C → E (.ref C) none H) ∧ (refuseAt r z = none → ∀ p H', Same H H' → H' p = some (.tup ((step m r z.toNat).map V.int)) → Q (.ref p) H')
theorem ok_after (T : Top K mg base) : FnOk P w K mg base (L2N.CX P w) 2 T.f_after T.d_after ["ring", "many", "machine"] (sp_after K T.cs) := by
  refine okN T.F_after sc_after (fun vs H Q E h => ?_) (fun cdv A outer s H vs Q E hr h => ?_)
  · obtain ⟨a, r, m, z, n, rfl, hS, g, kE, kQ⟩ := h
    rfl
  · obtain ⟨a, r, m, z, n, rfl, hS, g, kE, kQ⟩ := h
    refine ⟨_, (pss_cons (ps_expr (pe_call (ok_check_machine T) (hr.mono (by decide)) (by rfl) T.g_check_machine T.F_check_machine.kp T.b_check_machine .nil (fun _ _ _ _ _ _ i c => L2N.passes_call (L2N.takes_of rfl rfl rfl rfl) (fun _ _ _ _ h => h) _ _ _ _ _ _ i c) (pa_cons (pv 2) (pa_cons (pe_callB (r := HL.rLen K) HL.call_lenK (by rfl) T.n_len (by decide +kernel) (pa_cons (pv 0) pa_nil)) pa_nil))))
      (pss_cons (ps_if (pt_not (pt_val (pe_call (ok_may_step T) (hr.mono (by decide)) (by rfl) T.g_may_step T.F_may_step.kp T.b_may_step .nil pass0 (pa_cons (pv 0) (pa_cons (pv 2) pa_nil)))))
      (pss_one (L2N.ps_raise rfl (L2N.takes_of rfl rfl rfl rfl) (L2N.pmk_own PySem.F.excBase_ValueError T.ex_NotNow.ex T.ex_NotNow.gl T.ex_NotNow.kp (raises_own T.ex_NotNow.ba T.ex_NotNow.ty) rfl)))
      pss_nil)
      (pss_one (ps_ret (pe_tup (StX.pa_star (pe_slice (r := HL.rSlB K) HL.sl_tupB (pv 0) po_none (po_some (pv 2))) (pa_cons (pe_call (ok_taken T) (hr.mono (by decide)) (by rfl) T.g_taken T.F_taken.kp T.b_taken .nil pass0 (pa_cons (pv 0) (pa_cons (pv 1) (pa_cons (pv 2) pa_nil)))) (StX.pa_star (pe_slice (r := HL.rSlB K) HL.sl_tupB (pv 0) (po_some (pe_op op_add (pv 2) pe_int)) po_none) pa_nil)))))))), ?_⟩
    have gl := g.len
    have gn := g.n12
    have g2 := g.n2
    have e2 : z < 0 ∨ (r.length : Int) ≤ z → refuseAt r z = some 2 := fun h => if_pos h
    refine ⟨_, rfl, _, rfl, a, _, rfl, .inr hS, _, _, rfl, fun c C hC => ?_, fun c => ?_⟩
    · rw [List.length_map] at c
      exact kE 2 (e2 c) C hC
    rw [List.length_map] at c
    have c1 : ¬ z < 0 := fun q => c (Or.inl q)
    have c2 : ¬ (r.length : Int) ≤ z := fun q => c (Or.inr q)
    obtain ⟨k, rfl⟩ : ∃ k : Nat, z = (k : Int) := ⟨z.toNat, by omega⟩
    have hk : k < r.length := by omega
    have tk : ((k : Int)).toNat = k := rfl
    refine ⟨_, rfl, _, rfl, a, r, k, rfl, hS, hk, _, rfl, ite2 (fun c3 => ?_) (fun c3 => ?_)⟩
    · have e3 : refuseAt r k = some 3 := by
        unfold refuseAt
        rw [if_neg (by omega), tk, if_neg]
        intro q
        rw [q] at c3
        cases c3
      exact kE 3 e3 _ rfl
    have my : may r k = true := by
      cases q : may r k with
      | true => rfl
      | false =>
        rw [q] at c3
        exact absurd rfl c3
    have e4 : refuseAt r k = none := by
      unfold refuseAt
      rw [if_neg (by omega), tk, if_pos my]
    have b0 := g.at (k := 0) (by omega)
    refine ⟨_, rfl, _, rfl, k, rfl, a, _, rfl, hS, fun p1 H1 s1 q1 => ⟨p1, _, rfl, .inl q1, ?_⟩⟩
    have hS1 := seqT_same s1 hS
    refine ⟨_, rfl, _, rfl, _, rfl, a, r, m, k, rfl, hS1, hk, b0.1, b0.2, ?_⟩
    refine ⟨_, rfl, _, rfl, _, _, rfl, rfl, (k : Int) + 1, rfl, a, _, rfl, hS1, fun p2 H2 s2 q2 => ⟨p2, _, rfl, .inl q2, ?_⟩⟩
    have ev : cutV (r.map V.int) none (some (k : Int)) ++ (V.int (nxt m r k) :: (cutV (r.map V.int) (some ((k : Int) + 1)) none ++ [])) = (step m r k).map V.int := by
      have ec : ((k : Int) + 1) = ((k + 1 : Nat) : Int) := rfl
      rw [ec, cut_to, cut_from, List.append_nil]
      exact set_cut hk _
    have ez : (step m r k).length = r.length := step_len
    refine ⟨?_, fun p3 h3 => kQ e4 p3 _ (same_upd2 (s1.trans s2) h3) ?_⟩
    · rw [ev, List.length_map, ez, sizeLine_eq]
      omega
    · rw [tk, ← ev]
      exact upd_same

/-! ### stepped -/
/-! one step: HRMath -/
def sp_stepped (K : PySem.W.Frag) (cs : List Addr) : Sp := fun vs H Q E => ∃ (a : Addr) (r : List Int) (m z : Int), vs = [.ref a, .int m, .int z] ∧ SqT K H a (r.map V.int) ∧ r.length ≤ 1000 ∧
  (∀ j, refuseStep r m z = some j → ∀ C, cs[j]? = some C → E (.ref C) none H) ∧ (refuseStep r m z = none → ∀ p H', Same H H' → SqT K H' p ((step m r z.toNat).map V.int) → Q (.ref p) H')
theorem ok_stepped (T : Top K mg base) : FnOk P w K mg base (L2N.CX P w) 3 T.f_stepped T.d_stepped ["ring", "many", "machine"] (sp_stepped K T.cs) := by
  refine okN T.F_stepped sc_stepped (fun vs H Q E h => ?_) (fun cdv A outer s H vs Q E hr h => ?_)
  · obtain ⟨a, r, m, z, rfl, hS, hl, kE, kQ⟩ := h
    rfl
  · obtain ⟨a, r, m, z, rfl, hS, hl, kE, kQ⟩ := h
    refine ⟨_, (pss_cons (ps_expr (pe_call (ok_check_ring T) (hr.mono (by decide)) (by rfl) T.g_check_ring T.F_check_ring.kp T.b_check_ring .nil (fun _ _ _ _ _ _ i c => L2N.passes_call (L2N.takes_of rfl rfl rfl rfl) (fun _ _ _ _ h => h) _ _ _ _ _ _ i c) (pa_cons (pv 0) (pa_cons (pv 1) pa_nil))))
      (pss_one (ps_ret (pe_call (ok_after T) (hr.mono (by decide)) (by rfl) T.g_after T.F_after.kp T.b_after .nil (fun _ _ _ _ _ _ i c => L2N.passes_call (L2N.takes_of rfl rfl rfl rfl) (fun _ _ _ _ h => h) _ _ _ _ _ _ i c) (pa_cons (pv 0) (pa_cons (pv 1) (pa_cons (pv 2) pa_nil))))))), ?_⟩
    refine ⟨_, rfl, _, rfl, a, r, m, rfl, hS, hl, fun j hj C hC => ?_, fun hg => ?_⟩
    · exact kE j (by unfold refuseStep; rw [hj]; rfl) C hC
    have g := refuse_none hg
    have e := good_refuseStep g z
    rw [e] at kE kQ
    exact ⟨_, rfl, _, rfl, _, rfl, a, r, m, z, _, rfl, hS, g, kE, fun hn p H' s' hp => kQ hn p H' s' (SqT.of hp)⟩

/-! ### _law_order -/
def sp__law_order (K : PySem.W.Frag) : Sp := fun vs H Q _ => ∃ (a : Addr) (ns : List Int) (b : Addr) (r : List Int) (m n : Int), vs = [.ref b, .int m, .ref a] ∧ SqL K H a (ns.map V.int) ∧ ns.length ≤ 63 ∧ SqT K H b (r.map V.int) ∧ Good n.toNat m r ∧ ((n.toNat : Nat) : Int) ≤ m ∧ 2 ≤ n ∧ n ≤ 12 ∧
  ∀ p ks H', legal m r ks → sick m r ks → (able (run m r ks)).length = 1 → ks.length ≤ 198 → ListAt H p (ordV ks) H' → Q (.ref p) H'
theorem ok__law_order (T : Top K mg base) : FnOk P w K mg base CX0 4 T.f__law_order T.d__law_order ["_law_ring_here", "_law_many_here", "_law_script"] (sp__law_order K) := by
  refine T.F__law_order.ok sc__law_order (fun vs H Q E h => ?_) (fun cdv A outer s H vs Q E hr h => ?_)
  · obtain ⟨a, ns, b, r, m, n, rfl, hS, hl, hR, g, hm, n2, n12, q⟩ := h
    rfl
  · obtain ⟨a, ns, b, r, m, n, rfl, hS, hl, hR, g, hm, n2, n12, q⟩ := h
    refine ⟨_, (pss_cons (ps_set (i := 3) sc__law_order.nd rfl (by first | exact Or.inl rfl | exact Or.inr rfl) (pe_lst pa_nil))
      (pss_cons (ps_for PassesOwn.never rfl (pi_range1 (by rfl) T.n_range (pa_cons (pe_call (ok_most T) (hr.mono (by decide)) (by rfl) T.g_most T.F_most.kp T.b_most .nil HL.passN (pa_cons (pe_callB (r := HL.rLen K) HL.call_lenK (by rfl) T.n_len (by decide +kernel) (pa_cons (pv 0) pa_nil)) pa_nil)) pa_nil)) (pg_name (i := 4) sc__law_order.nd rfl (by first | exact Or.inl rfl | exact Or.inr rfl))
      (pss_cons (ps_set (i := 5) sc__law_order.nd rfl (by first | exact Or.inl rfl | exact Or.inr rfl) (pe_call (ok_able T) (hr.mono (by decide)) (by rfl) T.g_able T.F_able.kp T.b_able .nil HL.passN (pa_cons (pv 0) (pa_cons (pv 1) pa_nil))))
      (pss_cons (ps_if (pt_cmpR op_eq (pe_callB (r := HL.rLen K) HL.call_lenK (by rfl) T.n_len (by decide +kernel) (pa_cons (pv 5) pa_nil)) pe_int (nomark _))
      (pss_one (ps_ret (pv 3)))
      pss_nil)
      (pss_cons (ps_set (i := 6) sc__law_order.nd rfl (by first | exact Or.inl rfl | exact Or.inr rfl) (pe_call (ok__law_pick T) (hr.mono (by decide)) (by rfl) T.g__law_pick T.F__law_pick.kp T.b__law_pick .nil pass0 (pa_cons (pv 5) (pa_cons (pv 2) (pa_cons (pv 4) pa_nil)))))
      (pss_cons (ps_expr (pe_bm PySem.F.plainAttrs_list PySem.F.slot_list_append PySem.F.type_list_append mt_append (pv 3) (pa_cons (pv 6) pa_nil)))
      (pss_one (ps_set (i := 0) sc__law_order.nd rfl (by first | exact Or.inl rfl | exact Or.inr rfl) (pe_call (ok_stepped T) (hr.mono (by decide)) (by rfl) T.g_stepped T.F_stepped.kp T.b_stepped .nil HL.passN (pa_cons (pv 0) (pa_cons (pv 1) (pa_cons (pv 6) pa_nil)))))))))))
      (pss_one (ps_ret (pv 3))))), ?_⟩
    have gl := g.len
    have bnd : 3 * n * (n - 1) ≤ 396 := by
      have : n = 2 ∨ n = 3 ∨ n = 4 ∨ n = 5 ∨ n = 6 ∨ n = 7 ∨ n = 8 ∨ n = 9 ∨ n = 10 ∨ n = 11 ∨ n = 12 := by omega
      rcases this with e | e | e | e | e | e | e | e | e | e | e <;> subst e <;> decide
    have bn0 : 0 ≤ 3 * n * (n - 1) := by
      have : n = 2 ∨ n = 3 ∨ n = 4 ∨ n = 5 ∨ n = 6 ∨ n = 7 ∨ n = 8 ∨ n = 9 ∨ n = 10 ∨ n = 11 ∨ n = 12 := by omega
      rcases this with e | e | e | e | e | e | e | e | e | e | e <;> subst e <;> decide
    have lr : ((r.map V.int).length : Int) = n := by rw [List.length_map]; omega
    refine ⟨Nat.zero_le _, fun l hn => ?_⟩
    refine ⟨_, rfl, b, _, rfl, .inr (seqT_upd hR hn), n, congrArg (fun z => [V.int z]) lr, (fun y => absurd y (by omega)), fun _ => ?_⟩
    generalize hB : 3 * n * (n - 1) / 2 = M
    refine ⟨M, rfl, by omega, by omega, for_range (lo := 0) (n := M.toNat)
      (fun i σ H' => ∃ (t : Addr) (ks : List Nat) (v1 v2 v3 : Option V), σ = [some (.ref t), some (.int m), some (.ref a), some (.ref l), v1, v2, v3] ∧ legal m r ks ∧ sick m r ks ∧ ks.length = i ∧ ListAt H l (ordV ks) H' ∧ SqT K H' t ((run m r ks).map V.int))
      ⟨b, [], none, none, none, rfl, trivial, trivial, rfl, ListAt.mk0 (Same.refl H) hn, seqT_upd hR hn⟩ ?_ ?_⟩
    · rintro i σ H' hi ⟨t, ks, v1, v2, v3, rfl, lg, sk, kl, L, hT⟩
      have gr : Good n.toNat m (run m r ks) := g.run
      have grl := gr.len
      have ap : 0 < (able (run m r ks)).length := able_pos (by omega)
      have al := able_le (run m r ks)
      refine ⟨_, rfl, _, rfl, t, _, m, rfl, hT, by omega, gr.no, fun _ f H1 L1 => ?_⟩
      have L2 := L.on L1.1
      refine ⟨_, rfl, f, _, rfl, .inl (SqL.of L1.2.2), rfl, _, rfl, ?_⟩
      have e1 : decide (V.int ((ableV (run m r ks)).length : Int) = V.int 1) = decide ((able (run m r ks)).length = 1) := by
        rw [ableV_len]
        exact dec_nat _ 1
      rw [e1]
      by_cases h1 : (able (run m r ks)).length = 1
      · rw [decide_eq_true h1]
        refine iteT ?_
        exact ⟨_, rfl, q l ks H1 lg sk h1 (by omega) L2⟩
      rw [decide_eq_false h1]
      refine iteF ?_
      refine ⟨_, rfl, _, rfl, _, rfl, f, able (run m r ks), a, ns, i, congrArg (fun z => [V.ref f, V.ref a, V.int z]) (by omega), SqL.of L1.2.2, ap, by omega, L2.1.seq hS, hl, by omega, fun x hx H3 s3 => ?_⟩
      have L3 := L2.on s3
      refine ⟨_, rfl, .inl ⟨rfl, _, SqL.of L3.2.2⟩, _, rfl, l, _, _, rfl, rfl, L3.2.2, by rw [ordV_len, sizeLine_eq]; omega, ?_⟩
      have L4 := L3.put (ordV ks ++ [V.int (x : Int)])
      have hT4 := seqT_wr (zs := ordV ks ++ [V.int (x : Int)]) L3.2.2 (seqT_same s3 (seqT_same L1.1 hT))
      have eS : refuseStep (run m r ks) m (x : Int) = none := by rw [good_refuseStep gr]; exact at_no hx
      refine ⟨_, rfl, _, rfl, _, rfl, t, _, m, (x : Int), rfl, hT4, by omega, (fun j hj => nomatch (eS.symm.trans hj)), fun _ t2 H5 s5 hT2 => ?_⟩
      refine ⟨t2, ks ++ [x], _, _, _, rfl, legal_snoc.mpr ⟨lg, hx⟩, sick_snoc.mpr ⟨sk, h1⟩, by rw [List.length_append, kl]; rfl, ?_, ?_⟩
      · rw [ordV_snoc]
        exact L4.on s5
      · rw [run_snoc]
        exact hT2
    · rintro σ H' ⟨t, ks, v1, v2, v3, rfl, lg, sk, kl, L, hT⟩
      have h1 : (able (run m r ks)).length = 1 := Decidable.byContradiction fun h1 => by
        have gr : Good n.toNat m (run m r ks) := g.run
        have k0 := choose_able gr [] 0
        have := most_leI g hm (legal_snoc.mpr ⟨lg, k0⟩) (sick_snoc.mpr ⟨sk, h1⟩)
        rw [List.length_append, kl] at this
        have e : ((M.toNat + [choose [] 0 (able (run m r ks))].length : Nat) : Int) = (M.toNat : Int) + 1 := rfl
        rw [e] at this
        omega
      exact ⟨_, rfl, q l ks H' lg sk h1 (by omega) L⟩

/-! ### healed -/
def sp_healed (K : PySem.W.Frag) (cs : List Addr) : Sp := fun vs H Q E => ∃ (a : Addr) (r : List Int) (m : Int), vs = [.ref a, .int m] ∧ SqT K H a (r.map V.int) ∧ r.length ≤ 1000 ∧
  (∀ j, refuse r m = some j → ∀ C, cs[j]? = some C → E (.ref C) none H) ∧ (refuse r m = none → ∀ H', Same H H' → Q (.bl (decide ((able r).length = 1))) H')
theorem ok_healed (T : Top K mg base) : FnOk P w K mg base (L2N.CX P w) 4 T.f_healed T.d_healed ["ring", "many"] (sp_healed K T.cs) := by
  refine okN T.F_healed sc_healed (fun vs H Q E h => ?_) (fun cdv A outer s H vs Q E hr h => ?_)
  · obtain ⟨a, r, m, rfl, hS, hl, kE, kQ⟩ := h
    rfl
  · obtain ⟨a, r, m, rfl, hS, hl, kE, kQ⟩ := h
    refine ⟨_, (pss_one (ps_ret (pe_cmpR op_eq (pe_callB (r := HL.rLen K) HL.call_lenK (by rfl) T.n_len (by decide +kernel) (pa_cons (pe_call (ok_able T) (hr.mono (by decide)) (by rfl) T.g_able T.F_able.kp T.b_able .nil (fun _ _ _ _ _ _ i c => L2N.passes_call (L2N.takes_of rfl rfl rfl rfl) (fun _ _ _ _ h => h) _ _ _ _ _ _ i c) (pa_cons (pv 0) (pa_cons (pv 1) pa_nil))) pa_nil)) pe_int (nomark _)))), ?_⟩
    refine ⟨_, rfl, _, rfl, a, r, m, rfl, hS, hl, kE, fun hg p H' L => ?_⟩
    refine ⟨p, _, rfl, .inl (SqL.of L.2.2), rfl, ?_⟩
    have e : decide (V.int ((ableV r).length : Int) = V.int 1) = decide ((able r).length = 1) := by
      rw [ableV_len]
      exact dec_nat _ 1
    rw [e]
    exact kQ hg H' L.1

/-! ### turns -/
theorem turn_val (x i n : Nat) : ((x : Int) + (0 + (i : Int))) % (n : Int) = (((x + i) % n : Nat) : Int) := by
  rw [Int.zero_add]
  simp
def sp_turns (K : PySem.W.Frag) (cs : List Addr) : Sp := fun vs H Q E => ∃ (a : Addr) (r : List Int) (m : Int), vs = [.ref a, .int m] ∧ SqT K H a (r.map V.int) ∧ r.length ≤ 1000 ∧
  (∀ j, (refuse r m).or (if (able r).length = 1 then none else some 4) = some j → ∀ C, cs[j]? = some C → ∀ H', Same H H' → E (.ref C) none H') ∧
  ((refuse r m).or (if (able r).length = 1 then none else some 4) = none → ∀ p H', ListAt H p (ordV (turnL r.length ((able r).getD 0 0) r.length)) H' → Q (.ref p) H')
theorem ok_turns (T : Top K mg base) : FnOk P w K mg base (L2N.CX P w) 5 T.f_turns T.d_turns ["ring", "many"] (sp_turns K T.cs) := by
  refine okN T.F_turns sc_turns (fun vs H Q E h => ?_) (fun cdv A outer s H vs Q E hr h => ?_)
  · obtain ⟨a, r, m, rfl, hS, hl, kE, kQ⟩ := h
    rfl
  · obtain ⟨a, r, m, rfl, hS, hl, kE, kQ⟩ := h
    refine ⟨_, (pss_cons (ps_if (pt_not (pt_val (pe_call (ok_healed T) (hr.mono (by decide)) (by rfl) T.g_healed T.F_healed.kp T.b_healed .nil (fun _ _ _ _ _ _ i c => L2N.passes_call (L2N.takes_of rfl rfl rfl rfl) (fun _ _ _ _ h => h) _ _ _ _ _ _ i c) (pa_cons (pv 0) (pa_cons (pv 1) pa_nil)))))
      (pss_one (L2N.ps_raise rfl (L2N.takes_of rfl rfl rfl rfl) (L2N.pmk_own PySem.F.excBase_ValueError T.ex_NotHealed.ex T.ex_NotHealed.gl T.ex_NotHealed.kp (raises_own T.ex_NotHealed.ba T.ex_NotHealed.ty) rfl)))
      pss_nil)
      (pss_cons (ps_set (i := 2) sc_turns.nd rfl (by first | exact Or.inl rfl | exact Or.inr rfl) (pe_ix (r := rIxL K) ix_list (pe_call (ok_able T) (hr.mono (by decide)) (by rfl) T.g_able T.F_able.kp T.b_able .nil (fun _ _ _ _ _ _ i c => L2N.passes_call (L2N.takes_of rfl rfl rfl rfl) (fun _ _ _ _ h => h) _ _ _ _ _ _ i c) (pa_cons (pv 0) (pa_cons (pv 1) pa_nil))) pe_int (fun _ _ => rfl)))
      (pss_one (ps_ret (pe_lc (own := [("further", 3)]) (g := gName 3) (tt := tYes) (by rfl) sc_turns.nd (pi_range1 (by rfl) T.n_range (pa_cons (pe_callB (r := HL.rLen K) HL.call_lenK (by rfl) T.n_len (by decide +kernel) (pa_cons (pv 0) pa_nil)) pa_nil)) (blkOk_by (N := ["ring", "many", "first", "further"]) (sc := defScope s_turns) (by decide +kernel)) (fun _ _ _ _ _ => pg_name (i := 3) sc_turns.nd rfl (Or.inl rfl)) (fun _ _ _ _ _ => pts_nil) (fun _ _ _ _ _ => (pe_op op_mod (pe_op op_add (pv 2) (pv 3)) (pe_callB (r := HL.rLen K) HL.call_lenK (by rfl) T.n_len (by decide +kernel) (pa_cons (pv 0) pa_nil))))))))), ?_⟩
    refine ⟨_, rfl, _, rfl, a, r, m, rfl, hS, hl, fun j hj C hC => kE j (by rw [hj]; rfl) C hC H (Same.refl H), fun hg H1 s1 => ⟨_, rfl, ?_⟩⟩
    have g := refuse_none hg
    have n2 := g.n2
    rw [hg] at kE kQ
    by_cases c : (able r).length = 1
    · rw [decide_eq_true c]
      refine iteF ?_
      rw [if_pos c] at kQ
      refine ⟨_, rfl, _, rfl, a, r, m, rfl, seqT_same s1 hS, hl, g.no, fun _ f H2 L2 => ?_⟩
      refine ⟨f, _, 0, _, rfl, rfl, SqL.of L2.2.2, ordV_at (k := 0) rfl (by omega), ?_⟩
      have s2 := s1.trans L2.1
      have hS2 := seqT_same s2 hS
      refine ⟨_, rfl, a, _, rfl, .inr hS2, (r.length : Int), by rw [List.length_map], by omega, by omega, fun D hD => lc_range (lo := 0) (n := r.length) (fun i H' => ListAt H2 D (ordV (turnL r.length ((able r).getD 0 0) i)) H') (ListAt.mk0 (Same.refl H2) hD) (fun i H' hi L => ?_) fun H' L => ?_⟩
      · refine ⟨rfl, tyes ?_⟩
        have lm : ((r.map V.int).length : Int) = (r.length : Int) := by rw [List.length_map]
        refine ⟨_, rfl, _, rfl, _, _, rfl, rfl, _, rfl, a, _, rfl, .inr (seqT_same L.1 hS2), _, _, rfl, rfl, (by rw [lm]; show (0 : Int) < (r.length : Int); omega), ?_⟩
        rw [lm]
        refine L.push (Same.refl H') ?_ ?_
        · rw [ordV_len, turnL_len]
          omega
        · show _ = _ ++ [V.int (((((able r).getD 0 0 : Nat) : Int) + (0 + (i : Int))) % (r.length : Int))]
          rw [turnL_succ, ordV_snoc, turn_val]
      · exact kQ rfl D H' ⟨s2.trans L.1, s2.free L.2.1, L.2.2⟩
    · rw [decide_eq_false c]
      rw [if_neg c] at kE
      exact iteT (kE 4 rfl _ rfl H1 s1)

/-! ### gone -/
def sp_gone (K : PySem.W.Frag) (cs : List Addr) : Sp := fun vs H Q E => ∃ (a : Addr) (r : List Int) (m : Int) (o : Addr) (zs : List Int), vs = [.ref a, .int m, .ref o] ∧ SqT K H a (r.map V.int) ∧ r.length ≤ 1000 ∧ SqL K H o (zs.map V.int) ∧ zs.length ≤ 100000 ∧
  (∀ j, (refuse r m).or (refuseGo m r zs) = some j → ∀ C, cs[j]? = some C → ∀ H', Same H H' → E (.ref C) none H') ∧
  ((refuse r m).or (refuseGo m r zs) = none → ∀ p ts H', ListAt H p (ts.map V.ref) H' → TupsAt K H' ts (path m r zs) → Q (.ref p) H')
theorem ok_gone (T : Top K mg base) : FnOk P w K mg base (L2N.CX P w) 3 T.f_gone T.d_gone ["ring", "many", "order"] (sp_gone K T.cs) := by
  refine okN T.F_gone sc_gone (fun vs H Q E h => ?_) (fun cdv A outer s H vs Q E hr h => ?_)
  · obtain ⟨a, r, m, o, zs, rfl, hS, hl, hO, hz, kE, kQ⟩ := h
    rfl
  · obtain ⟨a, r, m, o, zs, rfl, hS, hl, hO, hz, kE, kQ⟩ := h
    refine ⟨_, (pss_cons (ps_expr (pe_call (ok_check_ring T) (hr.mono (by decide)) (by rfl) T.g_check_ring T.F_check_ring.kp T.b_check_ring .nil (fun _ _ _ _ _ _ i c => L2N.passes_call (L2N.takes_of rfl rfl rfl rfl) (fun _ _ _ _ h => h) _ _ _ _ _ _ i c) (pa_cons (pv 0) (pa_cons (pv 1) pa_nil))))
      (pss_cons (ps_set (i := 3) sc_gone.nd rfl (by first | exact Or.inl rfl | exact Or.inr rfl) (pe_lst (pa_cons (pv 0) pa_nil)))
      (pss_cons (ps_for (passes_of rfl) rfl (pi_list (pv 2)) (pg_name (i := 4) sc_gone.nd rfl (by first | exact Or.inl rfl | exact Or.inr rfl))
      (pss_one (ps_expr (pe_bm PySem.F.plainAttrs_list PySem.F.slot_list_append PySem.F.type_list_append mt_append (pv 3) (pa_cons (pe_call (ok_after T) (hr.mono (by decide)) (by rfl) T.g_after T.F_after.kp T.b_after .nil (fun _ _ _ _ _ _ i c => L2N.passes_call (L2N.takes_of rfl rfl rfl rfl) (fun _ _ _ _ h => h) _ _ _ _ _ _ i c) (pa_cons (pe_ix (r := rIxL K) ix_list (pv 3) (pe_un un_neg pe_int) (fun _ _ => rfl)) (pa_cons (pv 1) (pa_cons (pv 4) pa_nil)))) pa_nil)))))
      (pss_one (ps_ret (pv 3)))))), ?_⟩
    refine ⟨_, rfl, _, rfl, a, r, m, rfl, hS, hl, fun j hj C hC => ?_, fun hg => ?_⟩
    · exact kE j (by rw [hj]; rfl) C hC H (Same.refl H)
    have g := refuse_none hg
    rw [hg] at kE kQ
    refine ⟨_, rfl, small63 (by show 1 ≤ 1000; decide), fun l hn => ?_⟩
    refine ⟨_, rfl, o, rfl, ⟨_, (same_new hn).seq hO⟩, for_list (K := K) (a := o) (xs := zs.map V.int)
      (fun i σ H' => (∃ v, σ = [some (.ref a), some (.int m), some (.ref o), some (.ref l), v]) ∧ refuseGo m r (zs.take i) = none ∧ ∃ ts, ListAt H l (ts.map V.ref) H' ∧ TupsAt K H' ts (path m r (zs.take i)))
      ⟨⟨_, rfl⟩, rfl, [a], ListAt.mk0 (l := [.ref a]) (Same.refl H) hn, TupsAt.one (seqT_upd hS hn)⟩ (fun i σ H' _ z => by
        obtain ⟨_, _, ts, L, _⟩ := z
        exact L.1.seq hO) ?_ ?_⟩
    · rintro i y σ H' hi ⟨⟨v, rfl⟩, ok, ts, L, tu⟩
      obtain ⟨z, hz2, rfl⟩ : ∃ z, zs[i]? = some z ∧ y = .int z := by
        rw [List.getElem?_map] at hi
        cases e : zs[i]? with
        | none =>
          rw [e] at hi
          cases hi
        | some z =>
          rw [e] at hi
          exact ⟨z, rfl, (Option.some.inj hi).symm⟩
      have hil : i < zs.length := (List.getElem?_eq_some_iff.mp hz2).1
      have tl : (zs.take i).length = i := by rw [List.length_take]; omega
      have nx := take_snoc hz2
      have go := refuseGo_snoc (z := z) ok
      rw [← nx] at go
      have ge : Good r.length m (endOf m r (zs.take i)) := g.endOf
      have pl := path_last (m := m) (zs := zs.take i) (r := r)
      rw [tl] at pl
      have hts : ts.length = i + 1 := by rw [tu.1, path_len, tl]
      have gt : ts[i]? = some (ts[i]'(by omega)) := List.getElem?_eq_getElem (by omega)
      have lastT := tu.2 i _ _ gt pl
      have lastV : atI (ts.map V.ref) (-1) = some (.ref (ts[i]'(by omega))) := at_lastN (n := i) (by rw [List.length_map, hts]) (by rw [List.getElem?_map, gt]; rfl)
      refine ⟨_, rfl, .inl ⟨rfl, _, SqL.of L.2.2⟩, _, rfl, 1, rfl, l, _, -1, _, rfl, rfl, SqL.of L.2.2, lastV, _, rfl, _, rfl, _, _, m, z, _, rfl, lastT, ge, fun j hj C hC => ?_, fun hn2 p2 H2 s2 hp2' => ?_⟩
      · exact kE j (refuseGo_take (i := i + 1) (by rw [go]; exact hj)) C hC H' L.1
      · have hp2 := SqT.of (K := K) hp2'
        rw [hn2] at go
        have L2 := L.on s2
        refine ⟨l, _, _, rfl, rfl, L2.2.2, ?_, ⟨_, rfl⟩, go, ts ++ [p2], ?_, ?_⟩
        · rw [List.length_map, hts, sizeLine_eq]
          omega
        · rw [List.map_append]
          exact L2.put _
        · rw [nx, path_snoc]
          exact ((tu.on s2).push hp2).wr L2.2.2
    · rintro σ H' ⟨⟨v, rfl⟩, ok, ts, L, tu⟩
      rw [List.length_map, List.take_length] at ok tu
      exact ⟨_, rfl, kQ ok l ts H' L tu⟩

/-! ### chosen -/
def sp_chosen (K : PySem.W.Frag) : Sp := fun vs H Q _ => ∃ (f : Addr) (ks : List Nat) (o : Addr) (zs : List Int) (i : Nat), vs = [.ref f, .ref o, .int (i : Int)] ∧ SqL K H f (ordV ks) ∧ 0 < ks.length ∧ SqL K H o (zs.map V.int) ∧ Q (.int (choose zs i ks : Nat)) H
theorem ok_chosen (T : Top K mg base) : FnOk P w K mg base CX0 1 T.f_chosen T.d_chosen ["machines", "numbers", "step"] (sp_chosen K) := by
  refine T.F_chosen.ok sc_chosen (fun vs H Q E h => ?_) (fun cdv A outer s H vs Q E hr h => ?_)
  · obtain ⟨f, ks, o, zs, i, rfl, hF, h0, hO, q⟩ := h
    rfl
  · obtain ⟨f, ks, o, zs, i, rfl, hF, h0, hO, q⟩ := h
    refine ⟨_, (pss_cons (ps_if (pt_cmpR op_eq (pe_callB (r := HL.rLen K) HL.call_lenK (by rfl) T.n_len (by decide +kernel) (pa_cons (pv 1) pa_nil)) pe_int (nomark _))
      (pss_one (ps_ret (pe_ix (r := rIxL K) ix_list (pv 0) pe_int (fun _ _ => rfl))))
      pss_nil)
      (pss_cons (ps_set (i := 3) sc_chosen.nd rfl (by first | exact Or.inl rfl | exact Or.inr rfl) (pe_ix (r := rIxL K) ix_list (pv 1) (pe_op op_mod (pv 2) (pe_callB (r := HL.rLen K) HL.call_lenK (by rfl) T.n_len (by decide +kernel) (pa_cons (pv 1) pa_nil))) (fun _ _ => rfl)))
      (pss_one (ps_ret (pe_ix (r := rIxL K) ix_list (pv 0) (pe_op op_mod (pv 3) (pe_callB (r := HL.rLen K) HL.call_lenK (by rfl) T.n_len (by decide +kernel) (pa_cons (pv 0) pa_nil))) (fun _ _ => rfl)))))), ?_⟩
    unfold choose place at q
    refine ⟨_, rfl, o, _, rfl, .inl hO, rfl, _, rfl, ite2 (fun c => ?_) (fun c => ?_)⟩
    · have e : zs = [] := by
        have := V.int.inj (of_decide_eq_true c)
        rw [List.length_map] at this
        exact List.eq_nil_of_length_eq_zero (by omega)
      rw [if_pos e] at q
      exact ⟨_, rfl, f, _, 0, _, rfl, rfl, hF, ordV_at (k := 0) rfl h0, q⟩
    · have e : ¬ zs = [] := fun e => c (decide_eq_true (by rw [e]; rfl))
      have lp : 0 < zs.length := List.length_pos_iff.mpr e
      rw [if_neg e] at q
      have lm : ((zs.map V.int).length : Int) = (zs.length : Int) := by rw [List.length_map]
      have e1 : ((i : Int) % (zs.length : Int)) = ((i % zs.length : Nat) : Int) := by simp
      have lt := Nat.mod_lt i (show zs.length > 0 by omega)
      refine ⟨_, rfl, _, rfl, _, rfl, o, _, rfl, .inl hO, _, _, rfl, rfl, (by rw [lm]; show (0 : Int) < (zs.length : Int); omega), ?_⟩
      rw [lm]
      refine ⟨o, _, _, _, rfl, rfl, hO, at_int (k := i % zs.length) e1 lt, ?_⟩
      have lk : ((ordV ks).length : Int) = (ks.length : Int) := by rw [ordV_len]
      have d0 := Int.emod_nonneg (zs.getD (i % zs.length) 0) (b := (ks.length : Int)) (by omega)
      have d1 := Int.emod_lt_of_pos (zs.getD (i % zs.length) 0) (b := (ks.length : Int)) (by omega)
      refine ⟨_, rfl, _, rfl, _, rfl, f, _, rfl, .inl hF, _, _, rfl, rfl, (by rw [lk]; show (0 : Int) < (ks.length : Int); omega), ?_⟩
      rw [lk]
      exact ⟨f, _, _, _, rfl, rfl, hF, ordV_at (k := (zs.getD (i % zs.length) 0 % (ks.length : Int)).toNat) (by omega) (by omega), q⟩

/-! ### drawn -/
def sp_drawn (K : PySem.W.Frag) (cs : List Addr) : Sp := fun vs H Q E => ∃ (a : Addr) (r : List Int) (m : Int) (o : Addr) (zs : List Int) (z : Int), vs = [.ref a, .int m, .ref o, .int z] ∧ SqT K H a (r.map V.int) ∧ r.length ≤ 1000 ∧ SqL K H o (zs.map V.int) ∧ 0 ≤ z ∧ z ≤ 1000 ∧
  (∀ j, refuse r m = some j → ∀ C, cs[j]? = some C → E (.ref C) none H) ∧ (refuse r m = none → ∀ p H', ListAt H p (ordV (draw m zs r z.toNat)) H' → Q (.ref p) H')
theorem ok_drawn (T : Top K mg base) : FnOk P w K mg base (L2N.CX P w) 4 T.f_drawn T.d_drawn ["ring", "many", "numbers", "steps"] (sp_drawn K T.cs) := by
  refine okN T.F_drawn sc_drawn (fun vs H Q E h => ?_) (fun cdv A outer s H vs Q E hr h => ?_)
  · obtain ⟨a, r, m, o, zs, z, rfl, hS, hl, hO, z0, z1, kE, kQ⟩ := h
    rfl
  · obtain ⟨a, r, m, o, zs, z, rfl, hS, hl, hO, z0, z1, kE, kQ⟩ := h
    refine ⟨_, (pss_cons (ps_expr (pe_call (ok_check_ring T) (hr.mono (by decide)) (by rfl) T.g_check_ring T.F_check_ring.kp T.b_check_ring .nil (fun _ _ _ _ _ _ i c => L2N.passes_call (L2N.takes_of rfl rfl rfl rfl) (fun _ _ _ _ h => h) _ _ _ _ _ _ i c) (pa_cons (pv 0) (pa_cons (pv 1) pa_nil))))
      (pss_cons (ps_set (i := 4) sc_drawn.nd rfl (by first | exact Or.inl rfl | exact Or.inr rfl) (pe_lst pa_nil))
      (pss_cons (ps_for (passes_of rfl) rfl (pi_range1 (by rfl) T.n_range (pa_cons (pv 3) pa_nil)) (pg_name (i := 5) sc_drawn.nd rfl (by first | exact Or.inl rfl | exact Or.inr rfl))
      (pss_cons (ps_set (i := 6) sc_drawn.nd rfl (by first | exact Or.inl rfl | exact Or.inr rfl) (pe_call (ok_chosen T) (hr.mono (by decide)) (by rfl) T.g_chosen T.F_chosen.kp T.b_chosen .nil pass0 (pa_cons (pe_call (ok_able T) (hr.mono (by decide)) (by rfl) T.g_able T.F_able.kp T.b_able .nil (fun _ _ _ _ _ _ i c => L2N.passes_call (L2N.takes_of rfl rfl rfl rfl) (fun _ _ _ _ h => h) _ _ _ _ _ _ i c) (pa_cons (pv 0) (pa_cons (pv 1) pa_nil))) (pa_cons (pv 2) (pa_cons (pv 5) pa_nil)))))
      (pss_cons (ps_expr (pe_bm PySem.F.plainAttrs_list PySem.F.slot_list_append PySem.F.type_list_append mt_append (pv 4) (pa_cons (pv 6) pa_nil)))
      (pss_one (ps_set (i := 0) sc_drawn.nd rfl (by first | exact Or.inl rfl | exact Or.inr rfl) (pe_call (ok_after T) (hr.mono (by decide)) (by rfl) T.g_after T.F_after.kp T.b_after .nil (fun _ _ _ _ _ _ i c => L2N.passes_call (L2N.takes_of rfl rfl rfl rfl) (fun _ _ _ _ h => h) _ _ _ _ _ _ i c) (pa_cons (pv 0) (pa_cons (pv 1) (pa_cons (pv 6) pa_nil)))))))))
      (pss_one (ps_ret (pv 4)))))), ?_⟩
    refine ⟨_, rfl, _, rfl, a, r, m, rfl, hS, hl, kE, fun hg => ?_⟩
    have g := refuse_none hg
    have n2 := g.n2
    have n12 := g.n12
    refine ⟨Nat.zero_le _, fun l hn => ?_⟩
    refine ⟨_, rfl, z, rfl, by omega, by omega, for_range (lo := 0) (n := z.toNat)
      (fun i σ H' => ∃ (t : Addr) (v1 v2 : Option V), σ = [some (.ref t), some (.int m), some (.ref o), some (.int z), some (.ref l), v1, v2] ∧ ListAt H l (ordV (draw m zs r i)) H' ∧ SqT K H' t ((run m r (draw m zs r i)).map V.int))
      ⟨a, none, none, rfl, ListAt.mk0 (Same.refl H) hn, seqT_upd hS hn⟩ ?_ ?_⟩
    · rintro i σ H' hi ⟨t, v1, v2, rfl, L, hT⟩
      have gr : Good r.length m (run m r (draw m zs r i)) := g.run
      have grl := gr.len
      refine ⟨_, rfl, _, rfl, t, _, m, rfl, hT, by omega, gr.no, fun _ f H1 L1 => ?_⟩
      have ca := choose_able gr zs i
      refine ⟨_, rfl, _, rfl, f, _, o, zs, i, congrArg (fun y => [V.ref f, V.ref o, V.int y]) (by omega), SqL.of L1.2.2, able_pos (by omega), (L.1.trans L1.1).seq hO, ?_⟩
      have L2 := L.on L1.1
      refine ⟨_, rfl, .inl ⟨rfl, _, SqL.of L2.2.2⟩, _, rfl, l, _, _, rfl, rfl, L2.2.2, ?_, ?_⟩
      · rw [ordV_len, draw_len, sizeLine_eq]
        omega
      have L3 := L2.put (ordV (draw m zs r (i + 1)))
      rw [draw_succ, ordV_snoc] at L3
      have hT3 := seqT_wr (zs := ordV (draw m zs r i) ++ [V.int ((choose zs i (able (run m r (draw m zs r i))) : Nat) : Int)]) L2.2.2 (seqT_same L1.1 hT)
      refine ⟨_, rfl, _, rfl, _, rfl, t, _, m, _, _, rfl, hT3, gr, at_go ca, fun _ t2 H4 s4 ht2' => ?_⟩
      have ht2 := SqT.of (K := K) ht2'
      refine ⟨t2, _, _, rfl, ?_, ?_⟩
      · rw [draw_succ, ordV_snoc]
        exact L3.on s4
      · rw [draw_succ, run_snoc]
        exact ht2
    · rintro σ H' ⟨t, v1, v2, rfl, L, hT⟩
      exact ⟨_, rfl, kQ hg l H' L⟩

/-! ### counted -/
/-- how often each of n machines steps -/
def counts (n : Nat) (zs : List Int) : List Int := (List.range n).map fun k : Nat => ((zs.count (k : Int) : Nat) : Int)
theorem counts_len (n : Nat) (zs : List Int) : (counts n zs).length = n := by unfold counts; rw [List.length_map, List.length_range]
theorem counts_get {n i : Nat} (zs : List Int) (h : i < n) : (counts n zs)[i]? = some ((zs.count (i : Int) : Nat) : Int) := by
  unfold counts
  rw [List.getElem?_map, List.getElem?_range h]
  rfl
theorem counts_at {n k : Nat} (zs : List Int) (h : k < n) : (counts n zs).getD k 0 = ((zs.count (k : Int) : Nat) : Int) := by
  unfold counts
  rw [List.getD_eq_getElem?_getD, List.getElem?_map, List.getElem?_range h]
  rfl
theorem counts_snoc {n k : Nat} (zs : List Int) (h : k < n) : (counts n zs).set k ((counts n zs).getD k 0 + 1) = counts n (zs ++ [(k : Int)]) := by
  rw [counts_at zs h]
  apply List.ext_getElem?
  intro i
  by_cases hi : i < n
  · rw [List.getElem?_set, counts_get _ hi, counts_get _ hi, List.count_append, List.count_singleton]
    by_cases e : k = i
    · subst e
      rw [if_pos rfl, if_pos (by rw [counts_len]; exact hi)]
      simp
    · have : ((k : Int) == (i : Int)) = false := by simp; omega
      rw [if_neg e, this]
      simp
  · rw [List.getElem?_eq_none (by rw [List.length_set, counts_len]; omega), List.getElem?_eq_none (by rw [counts_len]; omega)]
theorem counts_nil (n : Nat) : (List.replicate n [V.int 0]).flatten = (counts n []).map V.int := by
  rw [flat_one]
  unfold counts
  rw [List.map_map]
  apply List.ext_getElem
  · rw [List.length_replicate, List.length_map, List.length_range]
  · intro i h1 h2
    rw [List.getElem_replicate, List.getElem_map]
    rfl
theorem count_cast (ks : List Nat) (k : Nat) : (ks.map fun k : Nat => (k : Int)).count (k : Int) = ks.count k := by
  induction ks with
  | nil => rfl
  | cons j ks ih =>
    rw [List.map_cons, List.count_cons, List.count_cons, ih]
    congr 1
    by_cases e : j = k
    · subst e
      simp
    · have e1 : ((j : Int) == (k : Int)) = false := by simp; omega
      have e2 : (j == k) = false := by simpa using e
      rw [e1, e2]
theorem half_most {z : Int} (h : ¬ (z < 2 ∨ 12 < z)) : 3 * z * (z - 1) / 2 = 3 * (z * (z - 1) / 2) := by
  have : z = 2 ∨ z = 3 ∨ z = 4 ∨ z = 5 ∨ z = 6 ∨ z = 7 ∨ z = 8 ∨ z = 9 ∨ z = 10 ∨ z = 11 ∨ z = 12 := by omega
  rcases this with e | e | e | e | e | e | e | e | e | e | e <;> subst e <;> rfl
def badM (n z : Int) : Bool := decide (z < 0 ∨ n ≤ z)
/-- what a counting is refused with -/
def refuseCount (zs : List Int) (n : Int) : Option Nat := if n < 2 ∨ 12 < n then some 1 else if zs.any (badM n) = true then some 2 else none
theorem no_bad {n : Nat} {ks : List Nat} (h : ∀ k ∈ ks, k < n) : (castL ks).any (badM (n : Int)) = false := by
  rw [List.any_eq_false]
  intro x hx e
  obtain ⟨k, hk, rfl⟩ := List.mem_map.mp hx
  have := h k hk
  have e2 := of_decide_eq_true e
  omega
theorem any_take {zs : List Int} {i : Nat} {p : Int → Bool} (h : (zs.take i).any p = true) : zs.any p = true := by
  rw [List.any_eq_true] at h ⊢
  obtain ⟨x, hx, e⟩ := h
  exact ⟨x, List.mem_of_mem_take hx, e⟩
def sp_counted (K : PySem.W.Frag) (cs : List Addr) : Sp := fun vs H Q E => ∃ (o : Addr) (zs : List Int) (n : Int), vs = [.ref o, .int n] ∧ SqL K H o (zs.map V.int) ∧ zs.length ≤ 1000 ∧
  (∀ j, refuseCount zs n = some j → ∀ C, cs[j]? = some C → ∀ H', Same H H' → E (.ref C) none H') ∧ (refuseCount zs n = none → ∀ p H', ListAt H p ((counts n.toNat zs).map V.int) H' → Q (.ref p) H')
theorem ok_counted (T : Top K mg base) : FnOk P w K mg base (L2N.CX P w) 2 T.f_counted T.d_counted ["order", "machines"] (sp_counted K T.cs) := by
  refine okN T.F_counted sc_counted (fun vs H Q E h => ?_) (fun cdv A outer s H vs Q E hr h => ?_)
  · obtain ⟨o, zs, n, rfl, hO, hz, kE, kQ⟩ := h
    rfl
  · obtain ⟨o, zs, n, rfl, hO, hz, kE, kQ⟩ := h
    refine ⟨_, (pss_cons (ps_expr (pe_call (ok_check_machines T) (hr.mono (by decide)) (by rfl) T.g_check_machines T.F_check_machines.kp T.b_check_machines .nil (fun _ _ _ _ _ _ i c => L2N.passes_call (L2N.takes_of rfl rfl rfl rfl) (fun _ _ _ _ h => h) _ _ _ _ _ _ i c) (pa_cons (pv 1) pa_nil)))
      (pss_cons (ps_set (i := 2) sc_counted.nd rfl (by first | exact Or.inl rfl | exact Or.inr rfl) (pe_op op_rep (pe_lst (pa_cons pe_int pa_nil)) (pv 1)))
      (pss_cons (ps_for (passes_of rfl) rfl (pi_list (pv 0)) (pg_name (i := 3) sc_counted.nd rfl (by first | exact Or.inl rfl | exact Or.inr rfl))
      (pss_cons (ps_expr (pe_call (ok_check_machine T) (hr.mono (by decide)) (by rfl) T.g_check_machine T.F_check_machine.kp T.b_check_machine .nil (fun _ _ _ _ _ _ i c => L2N.passes_call (L2N.takes_of rfl rfl rfl rfl) (fun _ _ _ _ h => h) _ _ _ _ _ _ i c) (pa_cons (pv 3) (pa_cons (pv 1) pa_nil))))
      (pss_one (ps_augS (pv 2) (pv 3) HL.get_list pe_int ip_add set_list))))
      (pss_one (ps_ret (pv 2)))))), ?_⟩
    refine ⟨_, rfl, n, rfl, fun c C hC => kE 1 (if_pos c) C hC H (Same.refl H), fun c => ?_⟩
    unfold refuseCount at kE kQ
    rw [if_neg c] at kE kQ
    refine ⟨small63 (by show 1 ≤ 1000; decide), fun w hw => ?_⟩
    refine ⟨_, rfl, w, n, _, rfl, rfl, upd_same, by omega, by omega, (by show 1 * n.toNat ≤ sizeLine; rw [sizeLine_eq]; omega), fun l hn => ?_⟩
    have L0 := ListAt.mk0 (l := (List.replicate n.toNat [V.int 0]).flatten) (same_new (o := HO.lst [V.int 0]) hw) hn
    rw [counts_nil] at L0 ⊢
    refine ⟨_, rfl, o, rfl, ⟨_, L0.1.seq hO⟩, for_list (K := K) (a := o) (xs := zs.map V.int)
      (fun i σ H' => (∃ v, σ = [some (.ref o), some (.int n), some (.ref l), v]) ∧ (zs.take i).any (badM n) = false ∧ ListAt H l ((counts n.toNat (zs.take i)).map V.int) H')
      ⟨⟨_, rfl⟩, rfl, L0⟩ (fun i σ H' _ z => z.2.2.1.seq hO) ?_ ?_⟩
    · rintro i y σ H' hi ⟨⟨v, rfl⟩, ok, L⟩
      obtain ⟨z, hz2, rfl⟩ := ints_get hi
      have nx := take_snoc hz2
      refine ⟨_, rfl, _, rfl, z, n, rfl, fun c1 C hC => ?_, fun c1 => ?_⟩
      · refine kE 2 (if_pos (any_take (i := i + 1) ?_)) C hC H' L.1
        rw [nx, List.any_append, ok]
        show (false || (badM n z || false)) = true
        rw [show badM n z = true from decide_eq_true c1]
        rfl
      obtain ⟨k, rfl⟩ : ∃ k : Nat, z = (k : Int) := ⟨z.toNat, by omega⟩
      have hk : k < n.toNat := by omega
      have cl := counts_len n.toNat (zs.take i)
      refine ⟨_, rfl, _, rfl, l, _, k, _, rfl, rfl, SqL.of L.2.2, at_int rfl (by rw [cl]; exact hk), _, _, rfl, rfl, l, _, k, k, rfl, rfl, L.2.2, ixN_nat (by rw [List.length_map, cl]; exact hk), ⟨_, rfl⟩, ?_, ?_⟩
      · rw [nx, List.any_append, ok]
        show (false || (badM n k || false)) = false
        rw [show badM n k = false from decide_eq_false c1]
        rfl
      · rw [nx, ← counts_snoc _ hk, List.map_set]
        exact L.put _
    · rintro σ H' ⟨⟨v, rfl⟩, ok, L⟩
      rw [List.length_map, List.take_length] at ok L
      exact ⟨_, rfl, kQ (by rw [if_neg (by rw [ok]; exact Bool.false_ne_true)]) l H' L⟩

/-! ### traced -/
def sp_traced (K : PySem.W.Frag) (cs : List Addr) : Sp := fun vs H Q E => ∃ (a : Addr) (r : List Int) (m : Int) (o : Addr) (zs : List Int), vs = [.ref a, .int m, .ref o] ∧ SqT K H a (r.map V.int) ∧ r.length ≤ 1000 ∧ SqL K H o (zs.map V.int) ∧ zs.length ≤ 100000 ∧
  (∀ j, (refuse r m).or (refuseGo m r zs) = some j → ∀ C, cs[j]? = some C → ∀ H', Same H H' → E (.ref C) none H') ∧
  ((refuse r m).or (refuseGo m r zs) = none → ∀ p H', ListAt H p ((trc r.length zs).1.map V.int) H' → Q (.ref p) H')
theorem ok_traced (T : Top K mg base) : FnOk P w K mg base (L2N.CX P w) 3 T.f_traced T.d_traced ["ring", "many", "order"] (sp_traced K T.cs) := by
  refine okN T.F_traced sc_traced (fun vs H Q E h => ?_) (fun cdv A outer s H vs Q E hr h => ?_)
  · obtain ⟨a, r, m, o, zs, rfl, hS, hl, hO, hz, kE, kQ⟩ := h
    rfl
  · obtain ⟨a, r, m, o, zs, rfl, hS, hl, hO, hz, kE, kQ⟩ := h
    refine ⟨_, (pss_cons (ps_expr (pe_call (ok_check_ring T) (hr.mono (by decide)) (by rfl) T.g_check_ring T.F_check_ring.kp T.b_check_ring .nil (fun _ _ _ _ _ _ i c => L2N.passes_call (L2N.takes_of rfl rfl rfl rfl) (fun _ _ _ _ h => h) _ _ _ _ _ _ i c) (pa_cons (pv 0) (pa_cons (pv 1) pa_nil))))
      (pss_cons (ps_set (i := 3) sc_traced.nd rfl (by first | exact Or.inl rfl | exact Or.inr rfl) (pe_listRg rfl (by rfl) T.n_list (prg_1 (by rfl) T.n_range (pe_callB (r := HL.rLen K) HL.call_lenK (by rfl) T.n_len (by decide +kernel) (pa_cons (pv 0) pa_nil)))))
      (pss_cons (ps_set (i := 4) sc_traced.nd rfl (by first | exact Or.inl rfl | exact Or.inr rfl) (pe_callB (r := HL.rLen K) HL.call_lenK (by rfl) T.n_len (by decide +kernel) (pa_cons (pv 0) pa_nil)))
      (pss_cons (ps_for (passes_of rfl) rfl (pi_list (pv 2)) (pg_name (i := 5) sc_traced.nd rfl (by first | exact Or.inl rfl | exact Or.inr rfl))
      (pss_cons (ps_set (i := 0) sc_traced.nd rfl (by first | exact Or.inl rfl | exact Or.inr rfl) (pe_call (ok_after T) (hr.mono (by decide)) (by rfl) T.g_after T.F_after.kp T.b_after .nil (fun _ _ _ _ _ _ i c => L2N.passes_call (L2N.takes_of rfl rfl rfl rfl) (fun _ _ _ _ h => h) _ _ _ _ _ _ i c) (pa_cons (pv 0) (pa_cons (pv 1) (pa_cons (pv 5) pa_nil)))))
      (pss_one (ps_if (pt_cmpR op_eq (pv 5) pe_int (nomark _))
      (pss_cons (ps_asg (pv 4) (pg_sub (pv 3) pe_int set_list))
      (pss_one (ps_aug (i := 4) sc_traced.nd rfl (by first | exact Or.inl rfl | exact Or.inr rfl) pe_int ip_add)))
      (pss_one (ps_asg (pe_ix (r := rIxL K) ix_list (pv 3) (pe_op op_sub (pv 5) pe_int) (fun _ _ => rfl)) (pg_sub (pv 3) (pv 5) set_list)))))))
      (pss_one (ps_ret (pv 3))))))), ?_⟩
    refine ⟨_, rfl, _, rfl, a, r, m, rfl, hS, hl, fun j hj C hC => ?_, fun hg => ?_⟩
    · exact kE j (by rw [hj]; rfl) C hC H (Same.refl H)
    have g := refuse_none hg
    rw [hg] at kE kQ
    have n2 := g.n2
    have n12 := g.n12
    have lm : ((r.map V.int).length : Int) = (r.length : Int) := by rw [List.length_map]
    refine ⟨_, rfl, a, _, rfl, .inr hS, (r.length : Int), congrArg V.int lm, RgOk.of_le (by omega) (by omega) (by omega) (by omega), fun l hn => ?_⟩
    rw [rgV_marks]
    refine ⟨_, rfl, a, _, rfl, .inr (seqT_upd hS hn), ?_⟩
    rw [lm]
    refine ⟨_, rfl, o, rfl, ⟨_, (same_new hn).seq hO⟩, for_list (K := K) (a := o) (xs := zs.map V.int)
      (fun i σ H' => ∃ (t : Addr) (v : Option V), σ = [some (.ref t), some (.int m), some (.ref o), some (.ref l), some (.int ((r.length : Int) + ((trc r.length (zs.take i)).2 : Nat))), v] ∧ refuseGo m r (zs.take i) = none ∧ ListAt H l ((trc r.length (zs.take i)).1.map V.int) H' ∧ SqT K H' t ((endOf m r (zs.take i)).map V.int))
      ⟨a, _, rfl, rfl, ListAt.mk0 (Same.refl H) hn, seqT_upd hS hn⟩ (fun i σ H' _ z => by
        obtain ⟨_, _, _, _, L, _⟩ := z
        exact L.1.seq hO) ?_ ?_⟩
    · rintro i y σ H' hi ⟨t, v, rfl, ok, L, hT⟩
      obtain ⟨z, hz2, rfl⟩ := ints_get hi
      have nx := take_snoc hz2
      have go := refuseGo_snoc (z := z) ok
      rw [← nx] at go
      have ge : Good r.length m (endOf m r (zs.take i)) := g.endOf
      have gel := ge.len
      have sl := trc_len r.length (zs.take i)
      refine ⟨_, rfl, _, rfl, _, rfl, t, _, m, z, _, rfl, hT, ge, fun j hj C hC => ?_, fun hn2 p2 H2 s2 hp2' => ?_⟩
      · exact kE j (refuseGo_take (i := i + 1) (by rw [go]; exact hj)) C hC H' L.1
      have hp2 := SqT.of (K := K) hp2'
      rw [hn2] at go
      obtain ⟨z0, z1, _⟩ := refuseAt_none hn2
      obtain ⟨k, rfl⟩ : ∃ k : Nat, z = (k : Int) := ⟨z.toNat, by omega⟩
      have hk : k < r.length := by omega
      have tk : ((k : Int)).toNat = k := rfl
      have L2 := L.on s2
      have eT := trc_snoc r.length (zs.take i) (k : Int)
      rw [← nx] at eT
      rw [tk] at hp2
      have eE : endOf m r (zs.take (i + 1)) = step m (endOf m r (zs.take i)) k := by rw [nx, endOf_snoc]; rfl
      rcases hp : trc r.length (zs.take i) with ⟨s, c⟩
      rw [hp] at L2 eT sl
      have sl' : s.length = r.length := sl
      refine ⟨_, rfl, rfl, _, rfl, ite2 (fun c0 => ?_) (fun c0 => ?_)⟩
      · have k0 : k = 0 := by
          have := V.int.inj (of_decide_eq_true c0)
          omega
        subst k0
        have e1 : tr1 r.length (s, c) ((0 : Nat) : Int) = (s.set 0 ((r.length : Int) + c), c + 1) := tr1_zero _ _ _
        rw [e1] at eT
        refine ⟨_, rfl, _, rfl, l, _, 0, 0, rfl, rfl, L2.2.2, ixN_nat (k := 0) (by rw [List.length_map, sl']; exact hk), ?_⟩
        have Lb := L2.put ((s.set 0 ((r.length : Int) + c)).map V.int)
        have ez : (s.map V.int).set 0 (V.int ((r.length : Int) + c)) = (s.set 0 ((r.length : Int) + c)).map V.int := by rw [List.map_set]
        refine ⟨_, rfl, _, _, rfl, rfl, p2, some (.int ((0 : Nat) : Int)), ?_, go, ?_, ?_⟩
        · rw [eT]
          show _ = [some (V.ref p2), some (V.int m), some (V.ref o), some (V.ref l), some (V.int ((r.length : Int) + ((c + 1 : Nat) : Int))), some (V.int ((0 : Nat) : Int))]
          rw [show (r.length : Int) + ((c + 1 : Nat) : Int) = r.length + (c : Int) + 1 by omega]
          rfl
        · rw [eT]
          show ListAt H l ((s.set 0 ((r.length : Int) + c)).map V.int) _
          rw [← ez] at Lb ⊢
          exact Lb
        · rw [eE]
          exact seqT_wr L2.2.2 hp2
      · have k0 : k ≠ 0 := fun e => c0 (decide_eq_true (by rw [e]; rfl))
        rw [tr1_pos _ _ _ k0] at eT
        refine ⟨_, rfl, _, rfl, _, _, rfl, rfl, l, _, _, _, rfl, rfl, SqL.of L2.2.2, at_int (k := k - 1) (by omega) (by omega), _, rfl, _, rfl, l, _, k, k, rfl, rfl, L2.2.2, ixN_nat (by rw [List.length_map, sl']; exact hk), ?_⟩
        have Lb := L2.put ((s.set k (s.getD (k - 1) 0)).map V.int)
        have ez : (s.map V.int).set k (V.int (s.getD (k - 1) 0)) = (s.set k (s.getD (k - 1) 0)).map V.int := by rw [List.map_set]
        refine ⟨p2, some (.int (k : Int)), ?_, go, ?_, ?_⟩
        · rw [eT]
          rfl
        · rw [eT]
          show ListAt H l ((s.set k (s.getD (k - 1) 0)).map V.int) _
          rw [← ez] at Lb ⊢
          exact Lb
        · rw [eE]
          exact seqT_wr L2.2.2 hp2
    · rintro σ H' ⟨t, v, rfl, ok, L, hT⟩
      rw [List.length_map, List.take_length] at ok L
      exact ⟨_, rfl, kQ ok l H' L⟩

/-! ### check_enough -/
def sp_check_enough (cs : List Addr) : Sp := fun vs H Q E => ∃ (m n : Int), vs = [.int m, .int n] ∧ (m < n → ∀ C, cs[0]? = some C → E (.ref C) none H) ∧ (¬ m < n → Q .non H)
theorem ok_check_enough (T : Top K mg base) : FnOk P w K mg base (L2N.CX P w) 1 T.f_check_enough T.d_check_enough ["many", "machines"] (sp_check_enough T.cs) := by
  refine okN T.F_check_enough sc_check_enough (fun vs H Q E h => ?_) (fun cdv A outer s H vs Q E hr h => ?_)
  · obtain ⟨m, n, rfl, kE, kQ⟩ := h
    rfl
  · obtain ⟨m, n, rfl, kE, kQ⟩ := h
    refine ⟨_, (pss_one (ps_if (pt_cmpR op_lt (pv 0) (pv 1) (nomark _))
      (pss_one (L2N.ps_raise rfl (L2N.takes_of rfl rfl rfl rfl) (L2N.pmk_own PySem.F.excBase_ValueError T.ex_NoNumbers.ex T.ex_NoNumbers.gl T.ex_NoNumbers.kp (raises_own T.ex_NoNumbers.ba T.ex_NoNumbers.ty) rfl)))
      pss_nil)), ?_⟩
    refine ⟨_, rfl, _, rfl, _, _, rfl, rfl, _, rfl, ite2 (fun c => ?_) (fun c => ?_)⟩
    · exact kE (of_decide_eq_true c) _ rfl
    · exact kQ fun y => c (decide_eq_true y)

/-! ### healing -/
def sp_healing (K : PySem.W.Frag) (cs : List Addr) : Sp := fun vs H Q E => ∃ (a : Addr) (r : List Int) (m : Int) (o : Addr) (zs : List Int), vs = [.ref a, .int m, .ref o] ∧ SqT K H a (r.map V.int) ∧ r.length ≤ 1000 ∧ SqL K H o (zs.map V.int) ∧
  (∀ j, (refuse r m).or (if m < r.length then some 0 else none) = some j → ∀ C, cs[j]? = some C → E (.ref C) none H) ∧
  ((refuse r m).or (if m < r.length then some 0 else none) = none → ∀ N p H', sick m r (draw m zs r N) → (able (run m r (draw m zs r N))).length = 1 → N ≤ 198 → ListAt H p (ordV (draw m zs r N)) H' → Q (.ref p) H')
theorem ok_healing (T : Top K mg base) : FnOk P w K mg base (L2N.CX P w) 5 T.f_healing T.d_healing ["ring", "many", "numbers"] (sp_healing K T.cs) := by
  refine okN T.F_healing sc_healing (fun vs H Q E h => ?_) (fun cdv A outer s H vs Q E hr h => ?_)
  · obtain ⟨a, r, m, o, zs, rfl, hS, hl, hO, kE, kQ⟩ := h
    rfl
  · obtain ⟨a, r, m, o, zs, rfl, hS, hl, hO, kE, kQ⟩ := h
    refine ⟨_, (pss_cons (ps_expr (pe_call (ok_check_ring T) (hr.mono (by decide)) (by rfl) T.g_check_ring T.F_check_ring.kp T.b_check_ring .nil (fun _ _ _ _ _ _ i c => L2N.passes_call (L2N.takes_of rfl rfl rfl rfl) (fun _ _ _ _ h => h) _ _ _ _ _ _ i c) (pa_cons (pv 0) (pa_cons (pv 1) pa_nil))))
      (pss_cons (ps_expr (pe_call (ok_check_enough T) (hr.mono (by decide)) (by rfl) T.g_check_enough T.F_check_enough.kp T.b_check_enough .nil (fun _ _ _ _ _ _ i c => L2N.passes_call (L2N.takes_of rfl rfl rfl rfl) (fun _ _ _ _ h => h) _ _ _ _ _ _ i c) (pa_cons (pv 1) (pa_cons (pe_callB (r := HL.rLen K) HL.call_lenK (by rfl) T.n_len (by decide +kernel) (pa_cons (pv 0) pa_nil)) pa_nil))))
      (pss_cons (ps_set (i := 3) sc_healing.nd rfl (by first | exact Or.inl rfl | exact Or.inr rfl) (pe_lst pa_nil))
      (pss_cons (ps_while (passes_of rfl) (pt_not (pt_val (pe_call (ok_healed T) (hr.mono (by decide)) (by rfl) T.g_healed T.F_healed.kp T.b_healed .nil (fun _ _ _ _ _ _ i c => L2N.passes_call (L2N.takes_of rfl rfl rfl rfl) (fun _ _ _ _ h => h) _ _ _ _ _ _ i c) (pa_cons (pv 0) (pa_cons (pv 1) pa_nil)))))
      (pss_cons (ps_set (i := 4) sc_healing.nd rfl (by first | exact Or.inl rfl | exact Or.inr rfl) (pe_call (ok_chosen T) (hr.mono (by decide)) (by rfl) T.g_chosen T.F_chosen.kp T.b_chosen .nil pass0 (pa_cons (pe_call (ok_able T) (hr.mono (by decide)) (by rfl) T.g_able T.F_able.kp T.b_able .nil (fun _ _ _ _ _ _ i c => L2N.passes_call (L2N.takes_of rfl rfl rfl rfl) (fun _ _ _ _ h => h) _ _ _ _ _ _ i c) (pa_cons (pv 0) (pa_cons (pv 1) pa_nil))) (pa_cons (pv 2) (pa_cons (pe_callB (r := HL.rLen K) HL.call_lenK (by rfl) T.n_len (by decide +kernel) (pa_cons (pv 3) pa_nil)) pa_nil)))))
      (pss_cons (ps_expr (pe_bm PySem.F.plainAttrs_list PySem.F.slot_list_append PySem.F.type_list_append mt_append (pv 3) (pa_cons (pv 4) pa_nil)))
      (pss_one (ps_set (i := 0) sc_healing.nd rfl (by first | exact Or.inl rfl | exact Or.inr rfl) (pe_call (ok_after T) (hr.mono (by decide)) (by rfl) T.g_after T.F_after.kp T.b_after .nil (fun _ _ _ _ _ _ i c => L2N.passes_call (L2N.takes_of rfl rfl rfl rfl) (fun _ _ _ _ h => h) _ _ _ _ _ _ i c) (pa_cons (pv 0) (pa_cons (pv 1) (pa_cons (pv 4) pa_nil)))))))))
      (pss_one (ps_ret (pv 3))))))), ?_⟩
    refine ⟨_, rfl, _, rfl, a, r, m, rfl, hS, hl, fun j hj => kE j (by rw [hj]; rfl), fun hg => ?_⟩
    have g := refuse_none hg
    rw [hg] at kE kQ
    have n2 := g.n2
    have n12 := g.n12
    refine ⟨_, rfl, _, rfl, a, _, rfl, .inr hS, _, _, rfl, fun c C hC => ?_, fun c => ?_⟩
    · rw [List.length_map] at c
      exact kE 0 (by rw [if_pos c]; rfl) C hC
    rw [List.length_map] at c
    rw [if_neg c] at kQ
    have hm : (r.length : Int) ≤ m := by omega
    refine ⟨Nat.zero_le _, fun l hn => ?_⟩
    refine ⟨fun mm σ H' => ∃ (i : Nat) (t : Addr) (v : Option V), mm = 200 - i ∧ σ = [some (.ref t), some (.int m), some (.ref o), some (.ref l), v] ∧ sick m r (draw m zs r i) ∧ ListAt H l (ordV (draw m zs r i)) H' ∧ SqT K H' t ((run m r (draw m zs r i)).map V.int),
      ⟨_, 0, a, none, rfl, rfl, trivial, ListAt.mk0 (Same.refl H) hn, seqT_upd hS hn⟩, ?_⟩
    rintro mm σ H' ⟨i, t, v, rfl, rfl, hs, L, hT⟩
    have gr : Good r.length m (run m r (draw m zs r i)) := g.run
    have grl := gr.len
    have short := draw_short g hm hs
    refine ⟨_, rfl, _, rfl, t, _, m, rfl, hT, by omega, gr.no, fun _ H1 s1 => ⟨_, rfl, ?_⟩⟩
    by_cases h1 : (able (run m r (draw m zs r i))).length = 1
    · rw [decide_eq_true h1]
      refine iteF ?_
      exact ⟨_, rfl, kQ rfl i l H1 hs h1 (by omega) (L.on s1)⟩
    rw [decide_eq_false h1]
    refine iteT ?_
    have hs2 := draw_sick i hs h1
    have short2 := draw_short g hm hs2
    refine ⟨fun σ' H2 => ∃ (t : Addr) (v : Option V), σ' = [some (.ref t), some (.int m), some (.ref o), some (.ref l), v] ∧ ListAt H l (ordV (draw m zs r (i + 1))) H2 ∧ SqT K H2 t ((run m r (draw m zs r (i + 1))).map V.int),
      fun σ' H2 ⟨t2, v2, e, L2, T2⟩ => ⟨200 - (i + 1), by omega, i + 1, t2, v2, rfl, e, hs2, L2, T2⟩, ?_⟩
    have hT1 := seqT_same s1 hT
    have La := L.on s1
    refine ⟨_, rfl, _, rfl, t, _, m, rfl, hT1, by omega, gr.no, fun _ f H2 L1 => ?_⟩
    have ca := choose_able gr zs i
    have L2 := La.on L1.1
    refine ⟨_, rfl, _, rfl, l, _, rfl, .inl (SqL.of L2.2.2), f, _, o, zs, i, congrArg (fun y => [V.ref f, V.ref o, V.int y]) (by rw [ordV_len, draw_len]), SqL.of L1.2.2, able_pos (by omega), L2.1.seq hO, ?_⟩
    refine ⟨_, rfl, .inl ⟨rfl, _, SqL.of L2.2.2⟩, _, rfl, l, _, _, rfl, rfl, L2.2.2, ?_, ?_⟩
    · rw [ordV_len, draw_len, sizeLine_eq]
      omega
    have L3 := L2.put (ordV (draw m zs r (i + 1)))
    rw [draw_succ, ordV_snoc] at L3
    have hT3 := seqT_wr (zs := ordV (draw m zs r i) ++ [V.int ((choose zs i (able (run m r (draw m zs r i))) : Nat) : Int)]) L2.2.2 (seqT_same L1.1 hT1)
    refine ⟨_, rfl, _, rfl, _, rfl, t, _, m, _, _, rfl, hT3, gr, at_go ca, fun _ t2 H4 s4 ht2' => ?_⟩
    have ht2 := SqT.of (K := K) ht2'
    refine ⟨t2, _, rfl, ?_, ?_⟩
    · rw [draw_succ, ordV_snoc]
      exact L3.on s4
    · rw [draw_succ, run_snoc]
      exact ht2

/-! ### _law_ask -/
/-- what each way of asking tells -/
def AskIs (n w : Nat) (m : Int) (r : List Int) (ks : List Nat) (zs : List Int) (d : TD) : Prop := match w with
  | 0 => d = .inl (castL (able r))
  | 1 => d = .inr (path m r (castL ks))
  | 2 => d = .inl (castL (draw m zs r (if (ks.length : Int) < 100 then (ks.length : Int) else 100).toNat))
  | 3 => d = .inl (counts n (castL ks))
  | 4 => d = .inl (trc r.length (castL ks)).1
  | 5 => ∃ N, sick m r (draw m zs r N) ∧ (able (run m r (draw m zs r N))).length = 1 ∧ d = .inl (castL (draw m zs r N))
  | _ => d = .inl (castL (turnL (run m r ks).length ((able (run m r ks)).getD 0 0) (run m r ks).length))
theorem askIs_one {n w : Nat} {m : Int} {r : List Int} {ks : List Nat} {zs : List Int} {d e : TD} (h : AskIs n w m r ks zs d) (h' : AskIs n w m r ks zs e) : d = e := by
  unfold AskIs at h h'
  split at h
  · exact h.trans h'.symm
  · exact h.trans h'.symm
  · exact h.trans h'.symm
  · exact h.trans h'.symm
  · exact h.trans h'.symm
  · obtain ⟨N, a, b, rfl⟩ := h
    obtain ⟨M, a', b', rfl⟩ := h'
    rw [first_one a b a' b']
  · split at h' <;> first | exact h.trans h'.symm | contradiction
def sp__law_ask (K : PySem.W.Frag) : Sp := fun vs H Q _ => ∃ (w : Nat) (a : Addr) (r : List Int) (m : Int) (n : Nat) (o : Addr) (ks : List Nat) (e : Addr) (zs : List Int), vs = [.int (w : Int), .ref a, .int m, .ref o, .ref e] ∧ w < 7 ∧ SqT K H a (r.map V.int) ∧ Good n m r ∧ (n : Int) ≤ m ∧ SqL K H o (ordV ks) ∧ ks.length ≤ 198 ∧ legal m r ks ∧ (able (run m r ks)).length = 1 ∧ SqL K H e (zs.map V.int) ∧
  ∀ (d : TD) (xs : List V) (p : Addr) (H' : Hp), AskIs n w m r ks zs d → Same H H' → H p = none → H' p = some (.lst xs) → Told K H' xs d → xs.length ≤ 1000 → Q (.ref p) H'
theorem ok__law_ask (T : Top K mg base) : FnOk P w K mg base CX0 6 T.f__law_ask T.d__law_ask ["_law_way", "_law_ring_here", "_law_many_here", "_law_order_here", "_law_numbers"] (sp__law_ask K) := by
  refine T.F__law_ask.ok sc__law_ask (fun vs H Q E h => ?_) (fun cdv A outer s H vs Q E hr h => ?_)
  · obtain ⟨w, a, r, m, n, o, ks, e, zs, rfl, w7, hR, g, hm, hO, kl, lg, h1, hE, q⟩ := h
    rfl
  · obtain ⟨w, a, r, m, n, o, ks, e, zs, rfl, w7, hR, g, hm, hO, kl, lg, h1, hE, q⟩ := h
    refine ⟨_, (pss_cons (ps_if (pt_cmpR op_eq (pv 0) pe_int (nomark _))
      (pss_one (ps_ret (pe_call (ok_able T) (hr.mono (by decide)) (by rfl) T.g_able T.F_able.kp T.b_able .nil HL.passN (pa_cons (pv 1) (pa_cons (pv 2) pa_nil)))))
      pss_nil)
      (pss_cons (ps_if (pt_cmpR op_eq (pv 0) pe_int (nomark _))
      (pss_one (ps_ret (pe_call (ok_gone T) (hr.mono (by decide)) (by rfl) T.g_gone T.F_gone.kp T.b_gone .nil HL.passN (pa_cons (pv 1) (pa_cons (pv 2) (pa_cons (pv 3) pa_nil))))))
      pss_nil)
      (pss_cons (ps_if (pt_cmpR op_eq (pv 0) pe_int (nomark _))
      (pss_one (ps_ret (pe_call (ok_drawn T) (hr.mono (by decide)) (by rfl) T.g_drawn T.F_drawn.kp T.b_drawn .nil HL.passN (pa_cons (pv 1) (pa_cons (pv 2) (pa_cons (pv 4) (pa_cons (pe_callB (call_min2 rfl) (by rfl) T.n_min (by decide +kernel) (pa_cons pe_int (pa_cons (pe_callB (r := HL.rLen K) HL.call_lenK (by rfl) T.n_len (by decide +kernel) (pa_cons (pv 3) pa_nil)) pa_nil))) pa_nil)))))))
      pss_nil)
      (pss_cons (ps_if (pt_cmpR op_eq (pv 0) pe_int (nomark _))
      (pss_one (ps_ret (pe_call (ok_counted T) (hr.mono (by decide)) (by rfl) T.g_counted T.F_counted.kp T.b_counted .nil HL.passN (pa_cons (pv 3) (pa_cons (pe_callB (r := HL.rLen K) HL.call_lenK (by rfl) T.n_len (by decide +kernel) (pa_cons (pv 1) pa_nil)) pa_nil)))))
      pss_nil)
      (pss_cons (ps_if (pt_cmpR op_eq (pv 0) pe_int (nomark _))
      (pss_one (ps_ret (pe_call (ok_traced T) (hr.mono (by decide)) (by rfl) T.g_traced T.F_traced.kp T.b_traced .nil HL.passN (pa_cons (pv 1) (pa_cons (pv 2) (pa_cons (pv 3) pa_nil))))))
      pss_nil)
      (pss_cons (ps_if (pt_cmpR op_eq (pv 0) pe_int (nomark _))
      (pss_one (ps_ret (pe_call (ok_healing T) (hr.mono (by decide)) (by rfl) T.g_healing T.F_healing.kp T.b_healing .nil HL.passN (pa_cons (pv 1) (pa_cons (pv 2) (pa_cons (pv 4) pa_nil))))))
      pss_nil)
      (pss_one (ps_ret (pe_call (ok_turns T) (hr.mono (by decide)) (by rfl) T.g_turns T.F_turns.kp T.b_turns .nil HL.passN (pa_cons (pe_ix (r := rIxL K) ix_list (pe_call (ok_gone T) (hr.mono (by decide)) (by rfl) T.g_gone T.F_gone.kp T.b_gone .nil HL.passN (pa_cons (pv 1) (pa_cons (pv 2) (pa_cons (pv 3) pa_nil)))) (pe_un un_neg pe_int) (fun _ _ => rfl)) (pa_cons (pv 2) pa_nil))))))))))), ?_⟩
    have gl := g.len
    have n2 := g.n2
    have n12 := g.n12
    have hO' : SqL K H o ((castL ks).map V.int) := by
      rw [← show ordV ks = (castL ks).map V.int from ordV_ints ks]
      exact hO
    have gL := go_of_legal lg
    have eG : (refuse r m).or (refuseGo m r (castL ks)) = none := by rw [good_refuse g]; exact gL.1
    have cl : (castL ks).length = ks.length := castL_len ks
    have toldO : ∀ (js : List Nat) (H' : Hp), Told K H' (ordV js) (.inl (castL js)) := fun js H' => ordV_ints js
    have num : ∀ {j : Int}, decide (V.int (w : Int) = V.int j) = true → (w : Int) = j := fun h => V.int.inj (of_decide_eq_true h)
    have al := able_le r
    refine ⟨_, rfl, rfl, _, rfl, ite2 (fun c => ?_) (fun c0 => ?_)⟩
    · have e0 : w = 0 := by have := num c; omega
      subst e0
      exact ⟨_, rfl, _, rfl, a, r, m, rfl, hR, by omega, g.no, fun _ f H' L => q _ _ f H' rfl L.1 L.2.1 L.2.2 (toldO _ _) (by rw [ableV_len]; omega)⟩
    refine ⟨_, rfl, rfl, _, rfl, ite2 (fun c => ?_) (fun c1 => ?_)⟩
    · have e0 : w = 1 := by have := num c; omega
      subst e0
      refine ⟨_, rfl, _, rfl, _, rfl, a, r, m, o, castL ks, rfl, hR, by omega, hO', by omega, (fun j hj => nomatch (eG.symm.trans hj)), fun _ p ts H' L tu => q _ _ p H' rfl L.1 L.2.1 L.2.2 ⟨ts, rfl, tu⟩ ?_⟩
      rw [List.length_map, tu.1, path_len]
      omega
    refine ⟨_, rfl, rfl, _, rfl, ite2 (fun c => ?_) (fun c2 => ?_)⟩
    · have e0 : w = 2 := by have := num c; omega
      subst e0
      refine ⟨_, rfl, _, rfl, _, rfl, _, rfl, o, _, rfl, .inl hO, _, _, rfl, ?_⟩
      rw [ordV_len]
      refine ⟨a, r, m, e, zs, _, rfl, hR, by omega, hE, ?_, ?_, g.no, fun _ p H' L => q _ _ p H' rfl L.1 L.2.1 L.2.2 (toldO _ _) ?_⟩
      · split <;> omega
      · split <;> omega
      · rw [ordV_len, draw_len]
        split <;> omega
    refine ⟨_, rfl, rfl, _, rfl, ite2 (fun c => ?_) (fun c3 => ?_)⟩
    · have e0 : w = 3 := by have := num c; omega
      subst e0
      have eC : refuseCount (castL ks) (n : Int) = none := by
        unfold refuseCount
        rw [if_neg (by omega), no_bad (n := n) (fun k hk => by
          have := legal_lt lg k hk
          omega), if_neg Bool.false_ne_true]
      refine ⟨_, rfl, _, rfl, a, _, rfl, .inr hR, o, castL ks, (n : Int), congrArg (fun z => [V.ref o, V.int z]) (by rw [List.length_map, gl]), hO', by omega, (fun j hj => nomatch (eC.symm.trans hj)), fun _ p H' L => q _ _ p H' rfl L.1 L.2.1 L.2.2 rfl ?_⟩
      rw [List.length_map, counts_len]
      show n ≤ 1000
      omega
    refine ⟨_, rfl, rfl, _, rfl, ite2 (fun c => ?_) (fun c4 => ?_)⟩
    · have e0 : w = 4 := by have := num c; omega
      subst e0
      refine ⟨_, rfl, _, rfl, _, rfl, a, r, m, o, castL ks, rfl, hR, by omega, hO', by omega, (fun j hj => nomatch (eG.symm.trans hj)), fun _ p H' L => q _ _ p H' rfl L.1 L.2.1 L.2.2 rfl ?_⟩
      rw [List.length_map, trc_len]
      omega
    refine ⟨_, rfl, rfl, _, rfl, ite2 (fun c => ?_) (fun c5 => ?_)⟩
    · have e0 : w = 5 := by have := num c; omega
      subst e0
      have eH : (refuse r m).or (if m < r.length then some 0 else none) = none := by
        rw [good_refuse g, if_neg (by omega)]
        rfl
      refine ⟨_, rfl, _, rfl, _, rfl, a, r, m, e, zs, rfl, hR, by omega, hE, (fun j hj => nomatch (eH.symm.trans hj)), fun _ N p H' a1 a2 a3 L => q _ _ p H' ⟨N, a1, a2, rfl⟩ L.1 L.2.1 L.2.2 (toldO _ _) ?_⟩
      rw [ordV_len, draw_len]
      omega
    have e6 : w = 6 := by
      have t0 : (w : Int) ≠ 0 := fun z => c0 (decide_eq_true (congrArg V.int z))
      have t1 : (w : Int) ≠ 1 := fun z => c1 (decide_eq_true (congrArg V.int z))
      have t2 : (w : Int) ≠ 2 := fun z => c2 (decide_eq_true (congrArg V.int z))
      have t3 : (w : Int) ≠ 3 := fun z => c3 (decide_eq_true (congrArg V.int z))
      have t4 : (w : Int) ≠ 4 := fun z => c4 (decide_eq_true (congrArg V.int z))
      have t5 : (w : Int) ≠ 5 := fun z => c5 (decide_eq_true (congrArg V.int z))
      omega
    subst e6
    refine ⟨_, rfl, _, rfl, _, rfl, a, r, m, o, castL ks, rfl, hR, by omega, hO', by omega, (fun j hj => nomatch (eG.symm.trans hj)), fun _ p ts H1 L1 tu => ?_⟩
    have tl : ts.length = ks.length + 1 := by rw [tu.1, path_len, cl]
    have hN1 : ks.length < ts.length := by omega
    refine ⟨1, rfl, p, _, -1, _, rfl, rfl, SqL.of L1.2.2, at_lastN (n := ks.length) (by rw [List.length_map, tl]) (by rw [List.getElem?_map, List.getElem?_eq_getElem hN1]; rfl), ?_⟩
    have tN := tu.2 ks.length _ _ (List.getElem?_eq_getElem hN1) (path_get (by omega))
    rw [end_run lg, List.take_length] at tN
    have gr : Good n m (run m r ks) := g.run
    have grl := gr.len
    have eT : (refuse (run m r ks) m).or (if (able (run m r ks)).length = 1 then none else some 4) = none := by rw [good_refuse gr, if_pos h1]; rfl
    refine ⟨_, rfl, _, _, m, rfl, tN, by omega, (fun j hj => nomatch (eT.symm.trans hj)), fun _ p2 H2 L2 => q _ _ p2 H2 rfl (L1.1.trans L2.1) (L1.1.free L2.2.1) L2.2.2 (toldO _ _) ?_⟩
    rw [ordV_len, turnL_len]
    omega

/-! ### check_few -/
theorem pow_cast (m n : Nat) : ((m : Int)) ^ n = ((m ^ n : Nat) : Int) := by simp
def sp_check_few (cs : List Addr) : Sp := fun vs H Q E => ∃ (n m : Int), vs = [.int n, .int m] ∧ 2 ≤ n ∧ n ≤ 12 ∧ 2 ≤ m ∧ m ≤ 100 ∧ (300 < m ^ n.toNat → ∀ C, cs[5]? = some C → E (.ref C) none H) ∧ (¬ 300 < m ^ n.toNat → Q .non H)
theorem ok_check_few (T : Top K mg base) : FnOk P w K mg base (L2N.CX P w) 1 T.f_check_few T.d_check_few ["machines", "many"] (sp_check_few T.cs) := by
  refine okN T.F_check_few sc_check_few (fun vs H Q E h => ?_) (fun cdv A outer s H vs Q E hr h => ?_)
  · obtain ⟨n, m, rfl, n2, n12, m2, m100, kE, kQ⟩ := h
    rfl
  · obtain ⟨n, m, rfl, n2, n12, m2, m100, kE, kQ⟩ := h
    refine ⟨_, (pss_cons (ps_set (i := 2) sc_check_few.nd rfl (by first | exact Or.inl rfl | exact Or.inr rfl) pe_int)
      (pss_cons (ps_for (passes_of rfl) rfl (pi_range1 (by rfl) T.n_range (pa_cons (pv 0) pa_nil)) (pg_name (i := 3) sc_check_few.nd rfl (by first | exact Or.inl rfl | exact Or.inr rfl))
      (pss_one (ps_set (i := 2) sc_check_few.nd rfl (by first | exact Or.inl rfl | exact Or.inr rfl) (pe_op op_mul (pv 2) (pv 1)))))
      (pss_one (ps_if (pt_cmpR op_gt (pv 2) (pe_glob (v := .int 300) rfl T.g_MOST_RINGS ⟨_, rfl⟩) (nomark _))
      (pss_one (L2N.ps_raise rfl (L2N.takes_of rfl rfl rfl rfl) (L2N.pmk_own PySem.F.excBase_ValueError T.ex_TooGreat.ex T.ex_TooGreat.gl T.ex_TooGreat.kp (raises_own T.ex_TooGreat.ba T.ex_TooGreat.ty) rfl)))
      pss_nil)))), ?_⟩
    refine ⟨_, rfl, n, rfl, by omega, by omega, for_range (lo := 0) (n := n.toNat) (fun i σ H' => (∃ v, σ = [some (.int n), some (.int m), some (.int (m ^ i)), v]) ∧ H' = H) ⟨⟨none, by rw [Int.pow_zero]; rfl⟩, rfl⟩ ?_ ?_⟩
    · rintro i σ H' hi ⟨⟨v, rfl⟩, rfl⟩
      exact ⟨_, rfl, _, rfl, _, _, rfl, rfl, .inr ⟨by omega, by omega⟩, ⟨some (.int (0 + (i : Int))), by rw [Int.pow_succ]; rfl⟩, rfl⟩
    · rintro σ H' ⟨⟨v, rfl⟩, rfl⟩
      refine ⟨_, rfl, _, _, rfl, rfl, _, rfl, ite2 (fun c => ?_) (fun c => ?_)⟩
      · exact kE (of_decide_eq_true c) _ rfl
      · exact kQ fun y => c (decide_eq_true y)

/-! ### ways_from -/
def sp_ways_from (K : PySem.W.Frag) : Sp := fun vs H Q _ => ∃ (a : Addr) (r : List Int) (m : Int) (n : Nat), vs = [.ref a, .int m] ∧ SqT K H a (r.map V.int) ∧ Good n m r ∧ ∀ p H', Same H H' → H p = none → WayAt H' p m r → Q (.ref p) H'
theorem ok_ways_from (T : Top K mg base) : FnOk P w K mg base CX0 4 T.f_ways_from T.d_ways_from ["ring", "many"] (sp_ways_from K) := by
  refine T.F_ways_from.ok sc_ways_from (fun vs H Q E h => ?_) (fun cdv A outer s H vs Q E hr h => ?_)
  · obtain ⟨a, r, m, n, rfl, hS, g, q⟩ := h
    rfl
  · obtain ⟨a, r, m, n, rfl, hS, g, q⟩ := h
    refine ⟨_, (pss_one (ps_ret (pe_lc (own := [("machine", 2)]) (g := gName 2) (tt := tYes) (by rfl) sc_ways_from.nd (pi_list (pe_call (ok_able T) (hr.mono (by decide)) (by rfl) T.g_able T.F_able.kp T.b_able .nil HL.passN (pa_cons (pv 0) (pa_cons (pv 1) pa_nil)))) (blkOk_by (N := ["ring", "many", "machine"]) (sc := defScope s_ways_from) (by decide +kernel)) (fun _ _ _ _ _ => pg_name (i := 2) sc_ways_from.nd rfl (Or.inl rfl)) (fun _ _ _ _ _ => pts_nil) (fun _ _ _ _ _ => (pe_tup (pa_cons (pv 2) (pa_cons (pe_call (ok_after T) (hr.mono (by decide)) (by rfl) T.g_after T.F_after.kp T.b_after .nil HL.passN (pa_cons (pv 0) (pa_cons (pv 1) (pa_cons (pv 2) pa_nil)))) pa_nil))))))), ?_⟩
    have gl := g.len
    have n12 := g.n12
    have al := able_le r
    refine ⟨_, rfl, _, rfl, a, r, m, rfl, hS, by omega, g.no, fun _ f H1 L1 => ⟨f, rfl, ⟨_, SqL.of L1.2.2⟩, fun D hD => lc_list (K := K) (a := f) (xs := ableV r)
      (fun i H' => ∃ ps : List Addr, ListAt H1 D (ps.map V.ref) H' ∧ ps.length = i ∧ ∀ (j : Nat) (p : Addr) (k : Nat), ps[j]? = some p → (able r)[j]? = some k → ∃ q, H' p = some (.tup [.int (k : Int), .ref q]) ∧ H' q = some (.tup ((step m r k).map V.int)))
      ⟨[], ListAt.mk0 (Same.refl H1) hD, rfl, fun j p k e => by cases e⟩ (fun i H' _ z => by
        obtain ⟨_, L, _⟩ := z
        exact SqL.of (L.1 _ _ L1.2.2)) (fun i v H' hv z => ?_) fun H' z => ?_⟩⟩
    · obtain ⟨ps, L, pl, hp⟩ := z
      obtain ⟨k, hk, rfl⟩ := ordV_get hv
      have ka : k ∈ able r := List.mem_of_getElem? hk
      have hil := (List.getElem?_eq_some_iff.mp hk).1
      have hS' := seqT_same (L1.1.trans L.1) hS
      refine ⟨rfl, tyes ?_⟩
      refine ⟨_, rfl, _, rfl, _, rfl, _, rfl, a, r, m, (k : Int), n, rfl, hS', g, at_go ka, fun _ b H2 s2 hb => ⟨small63 (by show 2 ≤ 1000; decide), fun c hc => ?_⟩⟩
      have s3 := s2.trans (same_new (o := HO.tup [V.int (k : Int), V.ref b]) hc)
      obtain ⟨acc, h1, h2, h3⟩ := L.push (l' := (ps ++ [c]).map V.ref) (y := .ref c) s3 (by rw [List.length_map]; omega) (by rw [List.map_append]; rfl)
      have keep : ∀ {x : Addr} {xs : List V} {o : HO}, upd H2 c (.tup [V.int (k : Int), V.ref b]) x = some (.tup xs) → upd (upd H2 c (.tup [V.int (k : Int), V.ref b])) D o x = some (.tup xs) := fun {x xs o} e => (upd_ne (ne_of e h1 (fun z => nomatch z))).trans e
      refine ⟨acc, h1, h2, ps ++ [c], h3, by rw [List.length_append, pl]; rfl, fun j p k' e1 e2 => ?_⟩
      by_cases cj : j < ps.length
      · rw [List.getElem?_append_left cj] at e1
        obtain ⟨q', a1, a2⟩ := hp j p k' e1 e2
        exact ⟨q', keep (s3 _ _ a1), keep (s3 _ _ a2)⟩
      · have ej : j = i := by
          have := (List.getElem?_eq_some_iff.mp e1).1
          rw [List.length_append] at this
          have z : ps.length + [c].length = ps.length + 1 := rfl
          omega
        subst ej
        rw [List.getElem?_append_right (by omega), pl, Nat.sub_self] at e1
        have ec : c = p := Option.some.inj e1
        have ekk : k = k' := Option.some.inj (hk.symm.trans e2)
        subst ec ekk
        exact ⟨b, keep upd_same, keep ((same_new hc) _ _ hb)⟩
    · obtain ⟨ps, L, pl, hp⟩ := z
      rw [ableV_len] at pl
      exact q D H' (L1.1.trans L.1) (L1.1.free L.2.1) ⟨ps, L.2.2, pl, hp⟩

/-! ### all_rings -/
def longer (m : Nat) (r : List Int) : List (List Int) := (List.range m).map fun x : Nat => r ++ [(x : Int)]
theorem allR_longer (m n : Nat) : allR m (n + 1) = (allR m n).flatMap (longer m) := rfl
theorem flat_take {α β : Type} (f : α → List β) {l : List α} {i : Nat} {a : α} (h : l[i]? = some a) : (l.take (i + 1)).flatMap f = (l.take i).flatMap f ++ f a := by
  rw [take_snoc h, List.flatMap_append]
  congr 1
  rw [List.flatMap_cons, List.flatMap_nil, List.append_nil]
theorem pow_small {m n i : Nat} (m2 : 2 ≤ m) (h : m ^ n ≤ 300) (hi : i ≤ n) : m ^ i ≤ 300 := Nat.le_trans (Nat.pow_le_pow_right (by omega) hi) h
def sp_all_rings (K : PySem.W.Frag) : Sp := fun vs H Q _ => ∃ (n m : Nat), vs = [.int (n : Int), .int (m : Int)] ∧ n ≤ 12 ∧ 2 ≤ m ∧ m ≤ 100 ∧ m ^ n ≤ 300 ∧ ∀ p ts H', ListAt H p (ts.map V.ref) H' → KeysAt H' ts (allR m n) → Q (.ref p) H'
theorem ok_all_rings (T : Top K mg base) : FnOk P w K mg base CX0 1 T.f_all_rings T.d_all_rings ["machines", "many"] (sp_all_rings K) := by
  refine T.F_all_rings.ok sc_all_rings (fun vs H Q E h => ?_) (fun cdv A outer s H vs Q E hr h => ?_)
  · obtain ⟨n, m, rfl, n12, m2, m100, few, q⟩ := h
    rfl
  · obtain ⟨n, m, rfl, n12, m2, m100, few, q⟩ := h
    refine ⟨_, (pss_cons (ps_set (i := 2) sc_all_rings.nd rfl (by first | exact Or.inl rfl | exact Or.inr rfl) (pe_lst (pa_cons (pe_tup pa_nil) pa_nil)))
      (pss_cons (ps_for PassesOwn.never rfl (pi_range1 (by rfl) T.n_range (pa_cons (pv 0) pa_nil)) (pg_name (i := 3) sc_all_rings.nd rfl (by first | exact Or.inl rfl | exact Or.inr rfl))
      (pss_one (ps_setLc2 (i := 2) (own := [("ring", 4), ("number", 5)]) (vs1 := [5]) (g := gName 4) (g1 := gName 5) (tt := tYes) (tt1 := tYes) (by rfl) sc_all_rings.nd rfl rfl (sw_true rfl rfl rfl (by decide +kernel)) (pi_list (pv 2)) (blkOk_by (N := ["machines", "many", "rings", "_", "ring", "number"]) (sc := defScope s_all_rings) (by decide +kernel)) (by decide) (fun _ _ _ _ _ => pg_name (i := 4) sc_all_rings.nd rfl (Or.inl rfl)) (fun _ _ _ _ _ => pts_nil) (fun _ _ _ _ _ => (pi_range1 (by rfl) T.n_range (pa_cons (pv 1) pa_nil))) (fun _ _ _ _ _ => pg_name (i := 5) sc_all_rings.nd rfl (Or.inl rfl)) (fun _ _ _ _ _ => pts_nil) (fun _ _ _ _ _ => (pe_tup (HL.pa_starK (K := K) (pv 4) (pa_cons (pv 5) pa_nil)))))))
      (pss_one (ps_ret (pv 2))))), ?_⟩
    refine ⟨Nat.zero_le _, fun t0 ht0 => ⟨small63 (by show 1 ≤ 1000; decide), fun l0 hl0 => ?_⟩⟩
    have L0 := ListAt.mk0 (l := [V.ref t0]) (same_new (o := HO.tup []) ht0) hl0
    have K0 : KeysAt (upd (upd H t0 (.tup [])) l0 (.lst [.ref t0])) [t0] (allR m 0) := by
      have : KeysAt (upd (upd H t0 (.tup [])) l0 (.lst [.ref t0])) ([] ++ [t0]) ([] ++ [[]]) := KeysAt.nil.push ((same_new hl0) _ _ upd_same)
      exact this
    refine ⟨_, rfl, (n : Int), rfl, by omega, by omega, for_range (lo := 0) (n := n)
      (fun i σ H' => ∃ (l : Addr) (ts : List Addr) (v3 : Option V), σ = [some (.int (n : Int)), some (.int (m : Int)), some (.ref l), v3, none, none] ∧ ListAt H l (ts.map V.ref) H' ∧ KeysAt H' ts (allR m i))
      ⟨l0, [t0], none, rfl, L0, K0⟩ ?_ ?_⟩
    · rintro i σ H' hi ⟨l, ts, v3, rfl, L, KT⟩
      have tl : ts.length = m ^ i := by rw [KT.1, allR_len]
      have few1 := pow_small (i := i + 1) m2 few (by omega)
      have few0 := pow_small (i := i) m2 few (by omega)
      have w := walk_list (K := K) (a := l) (xs := ts.map V.ref)
      refine ⟨_, rfl, l, rfl, ⟨_, SqL.of L.2.2⟩, fun D hD => ⟨fun a mm H2 => mm + a = ts.length ∧ ∃ us : List Addr, ListAt H' D (us.map V.ref) H2 ∧ KeysAt H2 us (((allR m i).take a).flatMap (longer m)), ⟨ts.length, rfl, [], ListAt.mk0 (Same.refl H') hD, KeysAt.nil⟩, ?_⟩⟩
      rintro a mm H2 ⟨em, us, L2, K2⟩
      have G2 : SqL K H2 l (ts.map V.ref) := SqL.of (L2.1 _ _ L.2.2)
      by_cases ha : a < ts.length
      · have ha' : a < (ts.map V.ref).length := by rw [List.length_map]; exact ha
        refine .inr ⟨w.goes a H2 ha' G2, fun H3 => ∃ us : List Addr, ListAt H' D (us.map V.ref) H3 ∧ KeysAt H3 us (((allR m i).take (a + 1)).flatMap (longer m)), fun H3 z => ⟨ts.length - (a + 1), by omega, by omega, z⟩, fun x H3 y => ?_⟩
        obtain ⟨rfl, hx⟩ := w.yields a H2 x H3 ha' G2 y
        obtain ⟨t, ht, rfl⟩ := tups_at hx
        have hr : a < (allR m i).length := by rw [← KT.1]; exact ha
        have er := List.getElem?_eq_getElem hr
        generalize (allR m i)[a] = r at er
        have hT := KT.2 a t r ht er
        have rl : r.length = i := (mem_allR.mp (List.mem_of_getElem? er)).1
        have ul := K2.1
        have bnd : (((allR m i).take a).flatMap (longer m)).length + m ≤ 300 := by
          have e1 := flat_take (longer m) er
          have e2 : ((allR m i).take (a + 1)).flatMap (longer m) ++ ((allR m i).drop (a + 1)).flatMap (longer m) = allR m (i + 1) := by
            rw [← List.flatMap_append, List.take_append_drop]
            rfl
          have e3 := congrArg List.length e2
          rw [e1, List.length_append, List.length_append, allR_len] at e3
          have : (longer m r).length = m := by unfold longer; rw [List.length_map, List.length_range]
          omega
        refine ⟨rfl, tyes ?_⟩
        have w1 := walk_range (lo := 0) (n := m)
        refine ⟨_, rfl, (m : Int), rfl, by omega, by omega, ⟨fun b k H4 => k + b = m ∧ ∃ us : List Addr, ListAt H' D (us.map V.ref) H4 ∧ KeysAt H4 us (((allR m i).take a).flatMap (longer m) ++ (List.range b).map fun x : Nat => r ++ [(x : Int)]), ⟨m, rfl, us, L2, by rw [List.range_zero, List.map_nil, List.append_nil]; exact K2⟩, ?_⟩⟩
        rintro b k H4 ⟨ek, us, L4, K4⟩
        by_cases hb : b < m
        · refine .inr ⟨hb, fun H5 => ∃ us : List Addr, ListAt H' D (us.map V.ref) H5 ∧ KeysAt H5 us (((allR m i).take a).flatMap (longer m) ++ (List.range (b + 1)).map fun x : Nat => r ++ [(x : Int)]), fun H5 z => ⟨m - (b + 1), by omega, by omega, z⟩, fun x H5 y1 => ?_⟩
          obtain ⟨rfl, rfl⟩ := y1
          have hT4 := L4.1 _ _ hT
          refine ⟨rfl, tyes ?_⟩
          refine ⟨_, rfl, t, _, rfl, .inl (SqT.of hT4), _, rfl, ?_, fun p hp => ?_⟩
          · rw [sizeLine_eq, List.length_append, List.length_map, rl]
            show i + 1 ≤ _
            omega
          obtain ⟨acc, h1, h2, h3⟩ := L4.push (l' := (us ++ [p]).map V.ref) (y := .ref p) (same_new (o := HO.tup (r.map V.int ++ [V.int (0 + (b : Int))])) hp) (by
            have := K4.1
            rw [List.length_append, List.length_map, List.length_range] at this
            rw [List.length_map]
            omega) (by rw [List.map_append]; rfl)
          refine ⟨acc, h1, h2, us ++ [p], h3, ?_⟩
          rw [range_map_succ, ← List.append_assoc]
          refine ((K4.on (same_new hp)).push ?_).wr h1 (fun xs e => by cases e)
          rw [upd_same, Int.zero_add, List.map_append]
          rfl
        · have e : b = m := by omega
          subst e
          refine .inl ⟨Nat.le_refl _, us, L4, ?_⟩
          rw [flat_take (longer b) er]
          exact K4
      · have e : a = ts.length := by omega
        refine .inl ⟨by rw [e, ← List.length_map (f := V.ref)]; exact w.stops H2 G2, D, us, _, rfl, ⟨L.1.trans L2.1, L.1.free L2.2.1, L2.2.2⟩, ?_⟩
        rw [allR_longer]
        rw [e, KT.1, List.take_length] at K2
        exact K2
    · rintro σ H' ⟨l, ts, v3, rfl, L, KT⟩
      exact ⟨_, rfl, q l ts H' L KT⟩

/-! ### all_ways -/
def sp_all_ways (K : PySem.W.Frag) : Sp := fun vs H Q _ => ∃ (n m : Nat), vs = [.int (n : Int), .int (m : Int)] ∧ 2 ≤ n ∧ n ≤ 12 ∧ 2 ≤ m ∧ m ≤ 100 ∧ m ^ n ≤ 300 ∧ ∀ p kvs H', Same H H' → H p = none → H' p = some (.dT kvs) → WaysOf H' (m : Int) kvs (allR m n) → Q (.ref p) H'
theorem ok_all_ways (T : Top K mg base) : FnOk P w K mg base CX0 5 T.f_all_ways T.d_all_ways ["machines", "many"] (sp_all_ways K) := by
  refine T.F_all_ways.ok sc_all_ways (fun vs H Q E h => ?_) (fun cdv A outer s H vs Q E hr h => ?_)
  · obtain ⟨n, m, rfl, n2, n12, m2, m100, few, q⟩ := h
    rfl
  · obtain ⟨n, m, rfl, n2, n12, m2, m100, few, q⟩ := h
    refine ⟨_, (pss_one (ps_ret (HL.pe_dcT (own := [("ring", 2)]) (g := gName 2) (tt := tYes) (hu_of hr) (by rfl) sc_all_ways.nd (pi_list (pe_call (ok_all_rings T) (hr.mono (by decide)) (by rfl) T.g_all_rings T.F_all_rings.kp T.b_all_rings .nil pass0 (pa_cons (pv 0) (pa_cons (pv 1) pa_nil)))) (blkOk_by (N := ["machines", "many", "ring"]) (sc := defScope s_all_ways) (by decide +kernel)) (fun _ _ _ _ _ => pg_name (i := 2) sc_all_ways.nd rfl (Or.inl rfl)) (fun _ _ _ _ _ => pts_nil) (fun _ _ _ _ _ => (pv 2)) (fun _ _ _ _ _ => (pe_call (ok_ways_from T) (hr.mono (by decide)) (by rfl) T.g_ways_from T.F_ways_from.kp T.b_ways_from .nil pass0 (pa_cons (pv 2) (pa_cons (pv 1) pa_nil))))))), ?_⟩
    refine ⟨_, rfl, _, rfl, n, m, rfl, n12, m2, m100, few, fun l ts H1 L1 KT => ⟨l, rfl, ⟨_, SqL.of L1.2.2⟩, fun D hD => HL.dcT_it (walk_list (K := K) (a := l) (xs := ts.map V.ref))
      (fun i H' => ∃ kvs, Same H1 H' ∧ H' D = some (.dT kvs) ∧ WaysOf H' (m : Int) kvs ((allR m n).take i)) ⟨[], same_new hD, upd_same, rfl, fun r hr => nomatch hr⟩ (fun i H' _ z => by
        obtain ⟨_, s, _⟩ := z
        exact SqL.of (s _ _ L1.2.2)) (fun i v H' H2 hi z y => ?_) fun H' z => ?_⟩⟩
    · obtain ⟨kvs, s, hD', W⟩ := z
      obtain ⟨rfl, hv⟩ := y
      obtain ⟨t, ht, rfl⟩ := tups_at hv
      have hr : i < (allR m n).length := by rw [← KT.1]; exact (List.getElem?_eq_some_iff.mp ht).1
      have er := List.getElem?_eq_getElem hr
      generalize (allR m n)[i] = r at er
      have rm : r ∈ allR m n := List.mem_of_getElem? er
      have hT := KT.2 i t r ht er
      have g := good_all rm n2 n12 m2 m100
      have nw : r ∉ (allR m n).take i := fun hm => by
        obtain ⟨j, hj, ej⟩ := List.mem_iff_getElem.mp hm
        rw [List.length_take] at hj
        have nd := allR_nodup m n
        rw [List.getElem_take] at ej
        have hi2 := List.getElem?_eq_some_iff.mp er
        obtain ⟨h1, h2⟩ := hi2
        have := (List.getElem_inj nd).mp (ej.trans h2.symm)
        omega
      refine ⟨rfl, tyes ?_⟩
      refine ⟨_, rfl, _, rfl, _, rfl, t, r, m, n, rfl, SqT.of (s _ _ hT), g, fun w H3 s3 hw WA => ?_⟩
      have none1 : valV kvs (keyOf r) = none := by
        cases ev : valV kvs (keyOf r) with
        | none => rfl
        | some u =>
          exfalso
          have k1 := valV_key.mp (by rw [ev]; rfl : (valV kvs (keyOf r)).isSome = true)
          rw [W.1] at k1
          obtain ⟨r', hr', e⟩ := List.mem_map.mp k1
          rw [keyOf_inj e] at hr'
          exact nw hr'
      have kl : kvs.length < sizeLine := by
        have := congrArg List.length W.1
        rw [List.length_map, List.length_map, List.length_take, allR_len] at this
        rw [sizeLine_eq]
        omega
      refine ⟨kvs, keyOf r, t, rfl, ?_, s3 _ _ hD', kl, _, ?_, upd_same, ?_⟩
      · rw [keyOf_V]
        exact s3 _ _ (s _ _ hT)
      · intro b o e
        have nb : b ≠ D := ne_of_none e hD
        exact (upd_ne nb).trans (s3 _ _ (s _ _ e))
      · have W3 := (W.on s3).wr (o' := HO.dT (putK kvs (keyOf r) (V.ref w))) (s3 _ _ hD') (fun xs e => by cases e) (fun xs e => by cases e)
        have WA3 := WA.wr (o' := HO.dT (putK kvs (keyOf r) (V.ref w))) (s3 _ _ hD') (fun xs e => by cases e) (fun xs e => by cases e)
        rw [take_snoc er]
        refine ⟨?_, fun r' hr' => ?_⟩
        · rw [putK_keys, if_neg (by rw [valV_any, none1]; exact Bool.false_ne_true), W.1, List.map_append]
          rfl
        · rcases List.mem_append.mp hr' with z | z
          · obtain ⟨w', a1, a2⟩ := W3.2 r' z
            refine ⟨w', ?_, a2⟩
            rw [valV_put, if_neg (fun e => nw ((keyOf_inj e : r' = r) ▸ z))]
            exact a1
          · have e := List.mem_singleton.mp z
            subst e
            exact ⟨w, by rw [valV_put, if_pos rfl], WA3⟩
    · obtain ⟨kvs, s, hD', W⟩ := z
      rw [List.length_map, KT.1, List.take_length] at W
      exact q D kvs H' (L1.1.trans s) (L1.1.free hD) hD' W

/-! ### all_in -/
def sp_all_in (K : PySem.W.Frag) : Sp := fun vs H Q _ => ∃ (w d : Addr) (m : Int) (r : List Int) (kvs : List (List L2.Key × V)), vs = [.ref w, .ref d] ∧ WayAt H w m r ∧ r.length ≤ 12 ∧ H d = some (.dT kvs) ∧ ∀ H', Same H H' → Q (.bl ((stepsOf m r).all fun q => (valV kvs (keyOf q)).isSome)) H'
theorem ok_all_in (T : Top K mg base) : FnOk P w K mg base CX0 1 T.f_all_in T.d_all_in ["ways", "rings"] (sp_all_in K) := by
  refine T.F_all_in.ok sc_all_in (fun vs H Q E h => ?_) (fun cdv A outer s H vs Q E hr h => ?_)
  · obtain ⟨w, d, m, r, kvs, rfl, W, rl, hd, q⟩ := h
    rfl
  · obtain ⟨w, d, m, r, kvs, rfl, W, rl, hd, q⟩ := h
    refine ⟨_, (pss_one (ps_ret (pe_callB (r := rAll K) (cr_all rfl) (by rfl) T.n_all (by decide +kernel) (pa_cons (pe_lc (own := [("_", 2), ("behind", 3)]) (g := gTup K 2 (gCons (gName 2) (gCons (gName 3) gNil))) (tt := tYes) (by rfl) sc_all_in.nd (pi_list (pv 0)) (blkOk_by (N := ["ways", "rings", "_", "behind"]) (sc := defScope s_all_in) (by decide +kernel)) (fun _ _ _ _ _ => HL.pg_tupK (by rfl) (pgs_cons (pg_name (i := 2) sc_all_in.nd rfl (Or.inl rfl)) (pgs_cons (pg_name (i := 3) sc_all_in.nd rfl (Or.inl rfl)) pgs_nil))) (fun _ _ _ _ _ => pts_nil) (fun _ _ _ _ _ => (pe_cmp (pc_din (hu_of hr) (pv 3) (pv 1))))) pa_nil)))), ?_⟩
    obtain ⟨ps, W1, W2, W3⟩ := W
    have al := able_le r
    refine ⟨_, rfl, w, rfl, ⟨_, SqL.of W1⟩, fun D hD => lc_list (K := K) (a := w) (xs := ps.map V.ref)
      (fun i H' => ListAt H D ((((able r).take i).map fun k => (valV kvs (keyOf (step m r k))).isSome).map V.bl) H') (ListAt.mk0 (Same.refl H) hD) (fun i H' _ L => SqL.of (L.1 _ _ W1)) (fun i v H' hv L => ?_) fun H' L => ?_⟩
    · obtain ⟨p, hp, rfl⟩ := tups_at hv
      have hi : i < (able r).length := by rw [← W2]; exact (List.getElem?_eq_some_iff.mp hp).1
      have hk := List.getElem?_eq_getElem hi
      generalize (able r)[i] = k at hk
      obtain ⟨c, a1, a2⟩ := W3 i p k hp hk
      refine ⟨p, _, rfl, SqT.of (L.1 _ _ a1), rfl, _, _, rfl, _, _, rfl, rfl, rfl, tyes ?_⟩
      refine ⟨_, rfl, _, rfl, d, _, rfl, DGet.t (k := keyOf (step m r k)) (L.1 _ _ hd) (by rw [keyOf_V]; exact L.1 _ _ a2), L.push (Same.refl H') ?_ ?_⟩
      · rw [List.length_map, List.length_map, List.length_take]
        omega
      · rw [take_snoc hk, List.map_append, List.map_append]
        rfl
    · rw [List.length_map, W2, List.take_length] at L
      refine ⟨D, _, rfl, SqL.of L.2.2, ?_⟩
      have e : ((able r).map fun k => (valV kvs (keyOf (step m r k))).isSome).all id = (stepsOf m r).all fun q => (valV kvs (keyOf q)).isSome := by
        unfold stepsOf
        rw [List.all_map, List.all_map]
        rfl
      rw [e]
      exact q H' L.1

/-! ### longest_steps -/
def sickK (L : List (List Int)) : List (List L2.Key × V) := L.map fun r => (keyOf r, V.int 0)
theorem sickK_val {L : List (List Int)} (q : List Int) : valV (sickK L) (keyOf q) = if q ∈ L then some (V.int 0) else none := by
  induction L with
  | nil => rfl
  | cons a L ih =>
    show valV ((keyOf a, V.int 0) :: sickK L) (keyOf q) = _
    by_cases e : a = q
    · subst e
      rw [valV_pos rfl, if_pos List.mem_cons_self]
    · rw [valV_neg (fun z => e (keyOf_inj z)), ih]
      by_cases c : q ∈ L
      · rw [if_pos c, if_pos (List.mem_cons_of_mem _ c)]
      · rw [if_neg c, if_neg (fun z => (List.mem_cons.mp z).elim (fun y => e y.symm) c)]
theorem sickK_keyed {m n : Nat} {L : List (List Int)} (nd : L.Nodup) (h : ∀ r ∈ L, r ∈ allR m n) : Keyed m n (sickK L) := by
  unfold Keyed sickK
  rw [List.map_map]
  refine ⟨?_, fun k hk => ?_⟩
  · rw [List.nodup_iff_pairwise_ne, List.pairwise_map]
    exact List.Pairwise.imp (fun ne e => ne (keyOf_inj e)) nd
  · obtain ⟨r, hr, e⟩ := List.mem_map.mp hk
    exact ⟨r, h r hr, e.symm⟩
/-- the round's new ones -/
def newAt (m : Int) (t : Nat) (r : List Int) : Bool := (known m t r).isNone && (stepsOf m r).all fun q => (known m t q).isSome
theorem newAt_iff {m : Int} {t : Nat} {r : List Int} (h : known m t r = none) : newAt m t r = true ↔ known m (t + 1) r ≠ none := by
  unfold newAt
  rw [h, known_new h]
  show (true && _) = true ↔ _
  rw [Bool.true_and]
  constructor
  · intro a
    rw [if_pos a]
    exact fun z => nomatch z
  · intro a
    cases c : (stepsOf m r).all fun q => (known m t q).isSome with
    | true => rfl
    | false =>
      rw [c, if_neg Bool.false_ne_true] at a
      exact absurd rfl a
theorem newAt_stable {m n t : Nat} (h : (allR m n).filter (newAt (m : Int) t) = []) : stable m n t := fun r hr => by
  cases e : known (m : Int) t r with
  | some x => exact known_keep e
  | none =>
    have := List.filter_eq_nil_iff.mp h r hr
    cases e2 : known (m : Int) (t + 1) r with
    | none => rfl
    | some x => exact absurd ((newAt_iff e).mpr (by rw [e2]; exact fun z => nomatch z)) this
theorem foldr_max : ∀ l : List Nat, (l ≠ [] → l.foldr max 0 ∈ l) ∧ ∀ y ∈ l, y ≤ l.foldr max 0
  | [] => ⟨fun h => absurd rfl h, fun y hy => nomatch hy⟩
  | a :: l => by
    obtain ⟨h1, h2⟩ := foldr_max l
    refine ⟨fun _ => ?_, fun y hy => ?_⟩
    · show max a (l.foldr max 0) ∈ a :: l
      by_cases c : l.foldr max 0 ≤ a
      · rw [Nat.max_eq_left c]
        exact List.mem_cons_self
      · rw [Nat.max_eq_right (by omega)]
        refine List.mem_cons_of_mem _ (h1 fun e => ?_)
        rw [e] at c
        exact c (Nat.zero_le _)
    · show y ≤ max a (l.foldr max 0)
      rcases List.mem_cons.mp hy with e | e
      · subst e
        exact Nat.le_max_left _ _
      · exact Nat.le_trans (h2 y e) (Nat.le_max_right _ _)
theorem max_is {l : List Nat} {M : Int} (h : M ∈ castL l) (a : ∀ y ∈ castL l, y ≤ M) : M = ((l.foldr max 0 : Nat) : Int) := by
  obtain ⟨k, hk, rfl⟩ := List.mem_map.mp h
  obtain ⟨h1, h2⟩ := foldr_max l
  have e1 := h2 k hk
  have e2 := a _ (List.mem_map.mpr ⟨_, h1 (List.ne_nil_of_mem hk), rfl⟩)
  have e3 : (((l.foldr max 0 : Nat) : Int)) ≤ (k : Int) := e2
  show (k : Int) = _
  omega
/-- the i-th ring is none of those ahead of it -/
theorem all_fresh {m n i : Nat} {r : List Int} (er : (allR m n)[i]? = some r) : r ∉ (allR m n).take i := fun hm => by
  obtain ⟨j, hj, ej⟩ := List.mem_iff_getElem.mp hm
  rw [List.length_take] at hj
  rw [List.getElem_take] at ej
  obtain ⟨h1, h2⟩ := List.getElem?_eq_some_iff.mp er
  have := (List.getElem_inj (allR_nodup m n)).mp (ej.trans h2.symm)
  omega
def sp_longest_steps (K : PySem.W.Frag) : Sp := fun vs H Q _ => ∃ (d : Addr) (kvs : List (List L2.Key × V)) (n m : Nat), vs = [.ref d] ∧ H d = some (.dT kvs) ∧ WaysOf H (m : Int) kvs (allR m n) ∧ 2 ≤ n ∧ n ≤ 12 ∧ 2 ≤ m ∧ m ≤ 100 ∧ m ^ n ≤ 300 ∧
  ∀ (t : Nat) (p : Addr) (svs : List (List L2.Key × V)) (H' : Hp), stable m n t → Same H H' → H p = none → H' p = some (.dT svs) → StepsAt m n t svs → Q (.ref p) H'
theorem ok_longest_steps (T : Top K mg base) : FnOk P w K mg base CX0 2 T.f_longest_steps T.d_longest_steps ["ways"] (sp_longest_steps K) := by
  refine T.F_longest_steps.ok sc_longest_steps (fun vs H Q E h => ?_) (fun cdv A outer s H vs Q E hr h => ?_)
  · obtain ⟨d, kvs, n, m, rfl, hd, W, n2, n12, m2, m100, few, q⟩ := h
    rfl
  · obtain ⟨d, kvs, n, m, rfl, hd, W, n2, n12, m2, m100, few, q⟩ := h
    refine ⟨_, (pss_cons (ps_set (i := 1) sc_longest_steps.nd rfl (by first | exact Or.inl rfl | exact Or.inr rfl) (pe_lock (HL.pe_dcT (own := [("ring", 2)]) (g := gName 2) (hu_of hr) (by rfl) sc_longest_steps.nd (pi_keys (pv 0)) (blkOk_by (N := ["ways", "steps", "ring", "ready", "_", "behind"]) (sc := defScope s_longest_steps) (by decide +kernel)) (fun _ _ _ _ _ => pg_name (i := 2) sc_longest_steps.nd rfl (Or.inl rfl)) (fun _ _ _ _ _ => pts_one (pt_cmpR op_eq (pe_callB (r := HL.rLen K) HL.call_lenK (by rfl) T.n_len (by decide +kernel) (pa_cons (pe_dget (hu_of hr) (pv 0) (pv 2) (fun _ _ => rfl)) pa_nil)) pe_int (nomark _))) (fun _ _ _ _ _ => (pv 2)) (fun _ _ _ _ _ => pe_int))))
      (pss_one (ps_while PassesOwn.never (pt_val pe_bl)
      (pss_cons (ps_lock (ps_setLc (i := 3) (own := [("ring", 2)]) (g := gName 2) (by rfl) sc_longest_steps.nd rfl rfl (sw_true rfl rfl rfl (by decide +kernel)) (pi_keys (pv 0)) (blkOk_by (N := ["ways", "steps", "ring", "ready", "_", "behind"]) (sc := defScope s_longest_steps) (by decide +kernel)) (fun _ _ _ _ _ => pg_name (i := 2) sc_longest_steps.nd rfl (Or.inl rfl)) (fun _ _ _ _ _ => pts_one (PW.pt (pw_and (pt_cmp (pc_dnotin (hu_of hr) (pv 2) (pv 1))) (pw_and1 (pt_val (pe_call (ok_all_in T) (hr.mono (by decide)) (by rfl) T.g_all_in T.F_all_in.kp T.b_all_in .nil pass0 (pa_cons (pe_dget (hu_of hr) (pv 0) (pv 2) (fun _ _ => rfl)) (pa_cons (pv 1) pa_nil)))))))) (fun _ _ _ _ _ => (pv 2))))
      (pss_cons (ps_if (pt_not (pt_truth (pv 3) (by intro _; rfl)))
      (pss_one (ps_ret (pv 1)))
      pss_nil)
      (pss_one (ps_for PassesOwn.never rfl (pi_list (pv 3)) (pg_name (i := 2) sc_longest_steps.nd rfl (by first | exact Or.inl rfl | exact Or.inr rfl))
      (pss_one (ps_dput (hu_of hr) (pv 1) (pv 2) (pe_op op_add pe_int (pe_callB (cr_max rfl) (by rfl) T.n_max (by decide +kernel) (pa_cons (pe_lc (own := [("_", 4), ("behind", 5)]) (g := gTup K 2 (gCons (gName 4) (gCons (gName 5) gNil))) (tt := tYes) (by rfl) sc_longest_steps.nd (pi_list (pe_dget (hu_of hr) (pv 0) (pv 2) (fun _ _ => rfl))) (blkOk_by (N := ["ways", "steps", "ring", "ready", "_", "behind"]) (sc := defScope s_longest_steps) (by decide +kernel)) (fun _ _ _ _ _ => HL.pg_tupK (by rfl) (pgs_cons (pg_name (i := 4) sc_longest_steps.nd rfl (Or.inl rfl)) (pgs_cons (pg_name (i := 5) sc_longest_steps.nd rfl (Or.inl rfl)) pgs_nil))) (fun _ _ _ _ _ => pts_nil) (fun _ _ _ _ _ => (pe_dget (hu_of hr) (pv 1) (pv 5) (fun _ _ => rfl)))) pa_nil))) rfl))))))))), ?_⟩
    have al := allR_len m n
    have kl : kvs.length = (allR m n).length := by
      have := congrArg List.length W.1
      rw [List.length_map, List.length_map] at this
      exact this
    have keyAt : ∀ {i : Nat} {k : List L2.Key} {v : V}, kvs[i]? = some (k, v) → ∃ r, (allR m n)[i]? = some r ∧ k = keyOf r := fun {i k v} h => by
      have e := congrArg (fun l : List (List L2.Key) => l[i]?) W.1
      simp only [List.getElem?_map, h] at e
      cases er : (allR m n)[i]? with
      | none =>
        rw [er] at e
        cases e
      | some r =>
        rw [er] at e
        exact ⟨r, rfl, Option.some.inj e⟩
    have len12 : ∀ {r : List Int}, r ∈ allR m n → r.length ≤ 12 := fun h => by
      rw [(mem_allR.mp h).1]
      exact n12
    refine ⟨d, _, hd, trivial, fun od => ?_⟩
    have hl := upd_same (H := H) (a := d) (o := HO.frz od (.dT kvs))
    have Wl := W.wr (o' := HO.frz od (.dT kvs)) hd (fun xs e => by cases e) (fun xs e => by cases e)
    refine ⟨_, rfl, d, od, rfl, .inr ⟨kvs, hl, fun D hD => HL.dcT_it (walk_keysT (d := d) (o := od) (kvs := kvs))
      (fun i H' => Same (upd H d (.frz od (.dT kvs))) H' ∧ H' D = some (.dT (sickK (((allR m n).take i).filter fun r => decide ((able r).length = 1))))) ⟨same_new hD, upd_same⟩ (fun i H' _ z => z.1 _ _ hl) (fun i v H' H2 hi z y => ?_) fun H' z => ?_⟩⟩
    · obtain ⟨s, hD'⟩ := z
      obtain ⟨rfl, k, v', c, hk, rfl, hc⟩ := y
      obtain ⟨r, er, rfl⟩ := keyAt hk
      have rm : r ∈ allR m n := List.mem_of_getElem? er
      obtain ⟨w, hw, WA⟩ := Wl.2 r rm
      obtain ⟨ps, WA1, WA2, _⟩ := WA.on s
      have g1 : DGet H2 d (.ref c) (some (.ref w)) := .inr ⟨kvs, keyOf r, c, .inr ⟨od, s _ _ hl⟩, rfl, hc, hw.symm⟩
      refine ⟨rfl, _, rfl, _, rfl, d, _, rfl, g1, w, _, rfl, .inl (SqL.of WA1), rfl, _, rfl, ?_⟩
      have e1 : decide (V.int ((ps.map V.ref).length : Int) = V.int 1) = decide ((able r).length = 1) := by
        rw [List.length_map, WA2]
        exact dec_nat _ 1
      rw [e1]
      have nw := all_fresh er
      by_cases h1 : (able r).length = 1
      · rw [decide_eq_true h1]
        refine iteT ?_
        have v0 : valV (sickK (((allR m n).take i).filter fun r => decide ((able r).length = 1))) (keyOf r) = none := by
          rw [sickK_val, if_neg fun z => nw (List.mem_filter.mp z).1]
        refine ⟨_, rfl, _, keyOf r, c, rfl, hc, hD', ?_, ?_, ?_⟩
        · unfold sickK
          rw [List.length_map, sizeLine_eq]
          have := List.length_filter_le (fun r => decide ((able r).length = 1)) ((allR m n).take i)
          rw [List.length_take] at this
          omega
        · intro b o e
          exact (upd_ne (ne_of_none e hD)).trans (s _ _ e)
        · rw [upd_same, putK_new _ v0, take_snoc er, List.filter_append, List.filter_cons, if_pos (decide_eq_true h1)]
          unfold sickK
          rw [List.map_append]
          rfl
      · rw [decide_eq_false h1]
        refine iteF ⟨s, ?_⟩
        rw [take_snoc er, List.filter_append, List.filter_cons, if_neg (by rw [decide_eq_false h1]; exact Bool.false_ne_true), List.filter_nil, List.append_nil]
        exact hD'
    obtain ⟨s, hD'⟩ := z
    rw [kl, List.take_length] at hD'
    have nd : D ≠ d := fun e => by
      rw [e, hl] at hD
      cases hD
    have hDn : H D = none := by
      rw [upd_ne nd] at hD
      exact hD
    refine ⟨s _ _ hl, ?_⟩
    have s0 : Same H (upd H' d (.dT kvs)) := same_unlock hd s
    have hD0 : upd H' d (.dT kvs) D = some (.dT (sickK ((allR m n).filter fun r => decide ((able r).length = 1)))) := (upd_ne nd).trans hD'
    have S0 : StepsAt m n 0 (sickK ((allR m n).filter fun r => decide ((able r).length = 1))) := by
      refine ⟨sickK_keyed (List.Pairwise.filter _ (allR_nodup m n)) fun r hr => (List.mem_filter.mp hr).1, fun r hr => ?_⟩
      rw [sickK_val, known_zero]
      by_cases c : (able r).length = 1
      · rw [if_pos (List.mem_filter.mpr ⟨hr, decide_eq_true c⟩), if_pos c]
        rfl
      · have nf : ¬ r ∈ (allR m n).filter fun r => decide ((able r).length = 1) := fun z => c (by simpa using (List.mem_filter.mp z).2)
        rw [if_neg nf, if_neg c]
        rfl
    generalize upd H' d (.dT kvs) = H0 at s0 hD0
    have hd0 := hd
    generalize sickK ((allR m n).filter fun r => decide ((able r).length = 1)) = svs0 at hD0 S0
    clear hD' s hD hl Wl od H'
    -- the rounds
    refine ⟨fun mm σ H1 => ∃ (t : Nat) (svs : List (List L2.Key × V)) (v2 v3 v4 v5 : Option V), mm = unk m n t ∧ σ = [some (.ref d), some (.ref D), v2, v3, v4, v5] ∧ Same H H1 ∧ H1 D = some (.dT svs) ∧ StepsAt m n t svs, ⟨_, 0, svs0, _, _, _, _, rfl, rfl, s0, hD0, S0⟩, ?_⟩
    rintro mm σ H1 ⟨t, svs, v2, v3, v4, v5, rfl, rfl, s1, hD1, ST⟩
    have W1 := W.on s1
    have hd1 := s1 _ _ hd0
    -- the round's new ones
    refine ⟨true, rfl, iteT ⟨fun σ' H' => ∃ (svs : List (List L2.Key × V)) (v2 v3 v4 v5 : Option V), unk m n (t + 1) < unk m n t ∧ σ' = [some (.ref d), some (.ref D), v2, v3, v4, v5] ∧ Same H H' ∧ H' D = some (.dT svs) ∧ StepsAt m n (t + 1) svs,
      fun σ' H' ⟨svs', u2, u3, u4, u5, lt, e, a1, a2, a3⟩ => ⟨unk m n (t + 1), lt, t + 1, svs', u2, u3, u4, u5, rfl, e, a1, a2, a3⟩, ?_⟩⟩
    refine ⟨d, _, hd1, trivial, fun od => ?_⟩
    have hl := upd_same (H := H1) (a := d) (o := HO.frz od (.dT kvs))
    have Wl := W1.wr (o' := HO.frz od (.dT kvs)) hd1 (fun xs e => by cases e) (fun xs e => by cases e)
    have hDl : upd H1 d (.frz od (.dT kvs)) D = some (.dT svs) := (upd_ne nd).trans hD1
    refine ⟨_, rfl, d, od, rfl, .inr ⟨kvs, hl, fun R hR => lc_it (walk_keysT (d := d) (o := od) (kvs := kvs))
      (fun i H' => ∃ ts : List Addr, ListAt (upd H1 d (.frz od (.dT kvs))) R (ts.map V.ref) H' ∧ KeysAt H' ts (((allR m n).take i).filter (newAt (m : Int) t))) ⟨[], ListAt.mk0 (Same.refl _) hR, KeysAt.nil⟩ (fun i H' _ z => by
        obtain ⟨_, L, _⟩ := z
        exact L.1 _ _ hl) (fun i v H' H2 hi z y => ?_) fun H' z => ?_⟩⟩
    · obtain ⟨ts, L, KT⟩ := z
      obtain ⟨rfl, k, v', c, hk, rfl, hc⟩ := y
      obtain ⟨r, er, rfl⟩ := keyAt hk
      have rm : r ∈ allR m n := List.mem_of_getElem? er
      obtain ⟨w, hw, WA⟩ := Wl.2 r rm
      have g1 : DGet H2 d (.ref c) (some (.ref w)) := .inr ⟨kvs, keyOf r, c, .inr ⟨od, L.1 _ _ hl⟩, rfl, hc, hw.symm⟩
      have g2 : DGet H2 D (.ref c) ((known (m : Int) t r).map fun h : Nat => V.int (h : Int)) := .inr ⟨svs, keyOf r, c, .inl (L.1 _ _ hDl), rfl, hc, (ST.2 r rm).symm⟩
      have tlen := KT.1
      have flen := List.length_filter_le (newAt (m : Int) t) ((allR m n).take i)
      rw [List.length_take] at flen
      have yes : newAt (m : Int) t r = true → ((allR m n).take (i + 1)).filter (newAt (m : Int) t) = ((allR m n).take i).filter (newAt (m : Int) t) ++ [r] := fun e => by
        rw [take_snoc er, List.filter_append, List.filter_cons, if_pos e]
        rfl
      have no : newAt (m : Int) t r = false → ((allR m n).take (i + 1)).filter (newAt (m : Int) t) = ((allR m n).take i).filter (newAt (m : Int) t) := fun e => by
        rw [take_snoc er, List.filter_append, List.filter_cons, if_neg (by rw [e]; exact Bool.false_ne_true)]
        simp
      refine ⟨rfl, _, rfl, _, rfl, D, _, rfl, g2, _, rfl, ?_⟩
      cases ek : known (m : Int) t r with
      | some h =>
        refine iteF ⟨ts, L, ?_⟩
        rw [no (by unfold newAt; rw [ek]; rfl)]
        exact KT
      | none =>
        refine iteT ?_
        have e1 : (stepsOf (m : Int) r).all (fun q => (valV svs (keyOf q)).isSome) = (stepsOf (m : Int) r).all fun q => (known (m : Int) t q).isSome := by
          refine Bool.eq_iff_iff.mpr ?_
          rw [List.all_eq_true, List.all_eq_true]
          have es : ∀ q ∈ stepsOf (m : Int) r, (valV svs (keyOf q)).isSome = (known (m : Int) t q).isSome := fun q hq => by
            rw [ST.2 q (steps_all n2 n12 m2 m100 rm hq), Option.isSome_map]
          exact ⟨fun z q hq => by rw [← es q hq]; exact z q hq, fun z q hq => by rw [es q hq]; exact z q hq⟩
        have e2 : newAt (m : Int) t r = (stepsOf (m : Int) r).all fun q => (known (m : Int) t q).isSome := by
          unfold newAt
          rw [ek]
          exact Bool.true_and _
        refine ⟨_, rfl, _, rfl, d, _, rfl, g1, _, rfl, w, D, m, r, svs, rfl, WA.on L.1, len12 rm, L.1 _ _ hDl, fun H3 s3 => ⟨_, rfl, ?_⟩⟩
        rw [e1, ← e2]
        have L3 := L.on s3
        cases en : newAt (m : Int) t r with
        | true =>
          refine iteT ⟨_, rfl, ?_⟩
          obtain ⟨acc, h1, h2, h3⟩ := L3.push (l' := (ts ++ [c]).map V.ref) (y := .ref c) (Same.refl H3) (by rw [List.length_map]; omega) (by rw [List.map_append]; rfl)
          refine ⟨acc, h1, h2, ts ++ [c], h3, ?_⟩
          rw [yes en]
          refine ((KT.on s3).push ?_).wr h1 (fun xs e => by cases e)
          rw [← keyOf_V]
          exact s3 _ _ hc
        | false =>
          refine iteF ⟨ts, L3, ?_⟩
          rw [no en]
          exact KT.on s3
    obtain ⟨ts, L, KT⟩ := z
    rw [kl, List.take_length] at KT
    refine ⟨L.1 _ _ hl, ?_⟩
    have Rd : R ≠ d := fun e => by
      rw [e, hl] at hR
      cases hR
    have s2 : Same H1 (upd H' d (.dT kvs)) := same_unlock hd1 L.1
    have hR2 : upd H' d (.dT kvs) R = some (.lst (ts.map V.ref)) := (upd_ne Rd).trans L.2.2
    have KT2 : KeysAt (upd H' d (.dT kvs)) ts ((allR m n).filter (newAt (m : Int) t)) := KT.wr (L.1 _ _ hl) (fun xs e => by cases e)
    have hR1 : H1 R = none := by
      rw [upd_ne Rd] at hR
      exact hR
    generalize upd H' d (.dT kvs) = H2 at s2 hR2 KT2
    have s02 := s1.trans s2
    have tl := KT2.1
    have fl := List.length_filter_le (newAt (m : Int) t) (allR m n)
    refine ⟨_, rfl, !(ts.map V.ref).isEmpty, .inl ⟨_, SqL.of hR2, rfl⟩, ?_⟩
    cases hN : (allR m n).filter (newAt (m : Int) t) with
    | nil =>
      rw [hN] at tl
      have te : ts = [] := List.eq_nil_of_length_eq_zero tl
      rw [te]
      refine iteT ?_
      exact ⟨_, rfl, q t D svs H2 (newAt_stable hN) s02 hDn (s2 _ _ hD1) ST⟩
    | cons r0 rest =>
      have tne : (!(ts.map V.ref).isEmpty) = true := by
        rw [hN] at tl
        cases ts with
        | nil => cases tl
        | cons a b => rfl
      rw [tne]
      refine iteF ?_
      have r0m := List.mem_filter.mp (show r0 ∈ (allR m n).filter (newAt (m : Int) t) by rw [hN]; exact List.mem_cons_self)
      have lt : unk m n (t + 1) < unk m n t := by
        have e0 : known (m : Int) t r0 = none := by
          cases z : known (m : Int) t r0 with
          | none => rfl
          | some x =>
            have := r0m.2
            unfold newAt at this
            rw [z] at this
            cases this
        exact unk_lt r0m.1 e0 ((newAt_iff e0).mp r0m.2)
      clear hN r0m tne r0 rest hl Wl hDl hR L KT
      have rsm : ∀ r ∈ (allR m n).filter (newAt (m : Int) t), r ∈ allR m n ∧ known (m : Int) t r = none ∧ (stepsOf (m : Int) r).all (fun q => (known (m : Int) t q).isSome) = true := fun r hr => by
        obtain ⟨h1, h2⟩ := List.mem_filter.mp hr
        unfold newAt at h2
        cases z : known (m : Int) t r with
        | none =>
          rw [z] at h2
          exact ⟨h1, rfl, by simpa using h2⟩
        | some x =>
          rw [z] at h2
          cases h2
      have rsall : ∀ r ∈ allR m n, newAt (m : Int) t r = true → r ∈ (allR m n).filter (newAt (m : Int) t) := fun r h1 h2 => List.mem_filter.mpr ⟨h1, h2⟩
      generalize (allR m n).filter (newAt (m : Int) t) = rs at tl fl KT2 rsm rsall
      refine ⟨_, rfl, R, rfl, ⟨_, SqL.of hR2⟩, for_list (K := K) (a := R) (xs := ts.map V.ref)
        (fun i σ H' => ∃ (svs' : List (List L2.Key × V)) (v2 v4 v5 : Option V), σ = [some (.ref d), some (.ref D), v2, some (.ref R), v4, v5] ∧ Same H H' ∧ H' D = some (.dT svs') ∧ H' R = some (.lst (ts.map V.ref)) ∧ KeysAt H' ts rs ∧ Keyed m n svs' ∧
          ∀ r ∈ allR m n, valV svs' (keyOf r) = (if r ∈ rs.take i then known (m : Int) (t + 1) r else known (m : Int) t r).map fun h : Nat => V.int (h : Int))
        ⟨svs, _, _, _, rfl, s02, s2 _ _ hD1, hR2, KT2, ST.1, fun r hr => by rw [if_neg (by rw [List.take_zero]; exact List.not_mem_nil)]; exact ST.2 r hr⟩ (fun i σ H' _ z => by
          obtain ⟨_, _, _, _, _, _, _, z, _⟩ := z
          exact SqL.of z) ?_ ?_⟩
      · rintro i y σ H' hi ⟨svs', v2, v4, v5, rfl, sH, hD', hR', KT', KD, SV⟩
        obtain ⟨c, hc, rfl⟩ := tups_at hi
        have hir : i < rs.length := by rw [← tl]; exact (List.getElem?_eq_some_iff.mp hc).1
        have er := List.getElem?_eq_getElem hir
        generalize rs[i] = r at er
        have rmem : r ∈ rs := List.mem_of_getElem? er
        obtain ⟨rm, rk, rall⟩ := rsm r rmem
        have hcT := KT'.2 i c r hc er
        have W' := W.on sH
        obtain ⟨w, hw, ps, WA1, WA2, WA3⟩ := W'.2 r rm
        have g1 : DGet H' d (.ref c) (some (.ref w)) := .inr ⟨kvs, keyOf r, c, .inl (sH _ _ hd0), rfl, by rw [keyOf_V]; exact hcT, hw.symm⟩
        have al2 := able_le r
        have rl := len12 rm
        have ap : 0 < (able r).length := able_pos (by rw [(mem_allR.mp rm).1]; omega)
        refine ⟨_, rfl, _, rfl, d, _, rfl, g1, w, rfl, ⟨_, SqL.of WA1⟩, fun C hC => lc_list (K := K) (a := w) (xs := ps.map V.ref)
          (fun j H'' => ListAt H' C ((castL (((able r).take j).map fun k => (known (m : Int) t (step (m : Int) r k)).getD 0)).map V.int) H'') (ListAt.mk0 (Same.refl H') hC) (fun j H'' _ L => SqL.of (L.1 _ _ WA1)) (fun j v H'' hv L => ?_) fun H'' L => ?_⟩
        · obtain ⟨p, hp, rfl⟩ := tups_at hv
          have hj : j < (able r).length := by rw [← WA2]; exact (List.getElem?_eq_some_iff.mp hp).1
          have hk := List.getElem?_eq_getElem hj
          generalize (able r)[j] = k at hk
          obtain ⟨b, a1, a2⟩ := WA3 j p k hp hk
          have qm : step (m : Int) r k ∈ stepsOf (m : Int) r := List.mem_map.mpr ⟨k, List.mem_of_getElem? hk, rfl⟩
          have qk := List.all_eq_true.mp rall _ qm
          obtain ⟨h, eh⟩ := Option.isSome_iff_exists.mp qk
          have g3 : DGet H'' D (.ref b) (some (.int (h : Int))) := by
            refine .inr ⟨svs', keyOf (step (m : Int) r k), b, .inl (L.1 _ _ hD'), rfl, by rw [keyOf_V]; exact L.1 _ _ a2, ?_⟩
            rw [SV _ (all_step rm n2 n12 m2 m100 k)]
            by_cases z : step (m : Int) r k ∈ rs.take i
            · rw [if_pos z, known_keep eh]
              rfl
            · rw [if_neg z, eh]
              rfl
          refine ⟨p, _, rfl, SqT.of (L.1 _ _ a1), rfl, _, _, rfl, _, _, rfl, rfl, rfl, tyes ?_⟩
          refine ⟨_, rfl, _, rfl, D, _, rfl, g3, L.push (Same.refl H'') ?_ ?_⟩
          · rw [List.length_map, castL_len, List.length_map, List.length_take]
            omega
          · rw [take_snoc hk, List.map_append]
            unfold castL
            rw [List.map_append, List.map_append]
            show _ = _ ++ [V.int (h : Int)]
            rw [List.map_cons, List.map_cons, List.map_nil, eh]
            rfl
        · rw [List.length_map, WA2, List.take_length] at L
          refine ⟨C, _, rfl, SqL.of L.2.2, by rw [castL_len, List.length_map]; exact ap, fun M hM hmax => ?_⟩
          have eM := max_is hM hmax
          have kn : known (m : Int) (t + 1) r = some (1 + ((able r).map fun k => (known (m : Int) t (step (m : Int) r k)).getD 0).foldr max 0) := by
            rw [known_new rk, if_pos rall]
            unfold stepsOf
            rw [List.map_map]
            rfl
          have kd := KD.len
          refine ⟨_, _, rfl, rfl, _, rfl, _, rfl, D, _, rfl, DPut.t (k := keyOf r) (L.1 _ _ hD') (by rw [keyOf_V]; exact L.1 _ _ hcT) (by rw [sizeLine_eq]; omega), ?_⟩
          have neR : R ≠ D := ne_of hR' hD' (fun z => nomatch z)
          refine ⟨putK svs' (keyOf r) (.int (1 + M)), _, _, _, rfl, ?_, upd_same, (upd_ne neR).trans (L.1 _ _ hR'), (KT'.on L.1).wr (L.1 _ _ hD') (fun xs e => by cases e), KD.put rm _, fun r' hr' => ?_⟩
          · intro b o e
            exact (upd_ne (ne_of_none e hDn)).trans ((sH.trans L.1) _ _ e)
          · rw [valV_put, take_snoc er]
            by_cases e : r' = r
            · subst e
              rw [if_pos rfl, if_pos (List.mem_append_right _ List.mem_cons_self), kn, eM]
              show some (V.int _) = some (V.int _)
              congr 2
            · rw [if_neg fun z => e (keyOf_inj z), SV r' hr']
              by_cases z : r' ∈ rs.take i
              · rw [if_pos z, if_pos (List.mem_append_left _ z)]
              · rw [if_neg z, if_neg fun y => (List.mem_append.mp y).elim z fun y => e (List.mem_singleton.mp y)]
      · rintro σ H' ⟨svs', v2, v4, v5, rfl, sH, hD', hR', KT', KD, SV⟩
        rw [List.length_map, tl, List.take_length] at SV
        refine ⟨svs', _, _, _, _, lt, rfl, sH, hD', KD, fun r hr => ?_⟩
        rw [SV r hr]
        by_cases z : r ∈ rs
        · rw [if_pos z]
        · rw [if_neg z]
          cases k1 : known (m : Int) t r with
          | some x => rw [known_keep k1]
          | none =>
            cases k2 : known (m : Int) (t + 1) r with
            | none => rfl
            | some x => exact absurd (rsall r hr ((newAt_iff k1).mpr (by rw [k2]; exact fun y => nomatch y))) z

/-! ### longest_order -/
def sp_longest_order (K : PySem.W.Frag) : Sp := fun vs H Q _ => ∃ (a d e : Addr) (kvs svs : List (List L2.Key × V)) (n m t h : Nat) (r : List Int), vs = [.ref a, .ref d, .ref e] ∧ H a = some (.tup (r.map V.int)) ∧ H d = some (.dT kvs) ∧ WaysOf H (m : Int) kvs (allR m n) ∧ H e = some (.dT svs) ∧ StepsAt m n t svs ∧
  (∀ q ∈ allR m n, known (m : Int) t q ≠ none) ∧ r ∈ allR m n ∧ known (m : Int) t r = some h ∧ 2 ≤ n ∧ n ≤ 12 ∧ 2 ≤ m ∧ m ≤ 100 ∧ m ^ n ≤ 300 ∧ ∀ (o : Addr) (H' : Hp), Same H H' → H o = none → H' o = some (.lst (ordV (orderT (m : Int) t r h))) → Q (.ref o) H'
theorem ok_longest_order (T : Top K mg base) : FnOk P w K mg base CX0 1 T.f_longest_order T.d_longest_order ["ring", "ways", "steps"] (sp_longest_order K) := by
  refine T.F_longest_order.ok sc_longest_order (fun vs H Q E h => ?_) (fun cdv A outer s H vs Q E hr h => ?_)
  · obtain ⟨a, d, e, kvs, svs, n, m, t, h, r, rfl, ha, hd, W, he, ST, all, rm, rk, n2, n12, m2, m100, few, q⟩ := h
    rfl
  · obtain ⟨a, d, e, kvs, svs, n, m, t, h, r, rfl, ha, hd, W, he, ST, all, rm, rk, n2, n12, m2, m100, few, q⟩ := h
    refine ⟨_, (pss_cons (ps_set (i := 3) sc_longest_order.nd rfl (by first | exact Or.inl rfl | exact Or.inr rfl) (pe_lst pa_nil))
      (pss_cons (ps_while PassesOwn.never (pt_cmpR op_gt (pe_dget (hu_of hr) (pv 2) (pv 0) (fun _ _ => rfl)) pe_int (nomark _))
      (pss_cons (ps_setLc (i := 4) (own := [("way", 5)]) (g := gName 5) (by rfl) sc_longest_order.nd rfl rfl (sw_true rfl rfl rfl (by decide +kernel)) (pi_list (pe_dget (hu_of hr) (pv 1) (pv 0) (fun _ _ => rfl))) (blkOk_by (N := ["ring", "ways", "steps", "order", "longest", "way", "machine"]) (sc := defScope s_longest_order) (by decide +kernel)) (fun _ _ _ _ _ => pg_name (i := 5) sc_longest_order.nd rfl (Or.inl rfl)) (fun _ _ _ _ _ => pts_one (pt_cmpR op_eq (pe_dget (hu_of hr) (pv 2) (pe_ix (r := rIxT K) ix_tup (pv 5) pe_int (fun _ _ => rfl)) (fun _ _ => rfl)) (pe_op op_sub (pe_dget (hu_of hr) (pv 2) (pv 0) (fun _ _ => rfl)) pe_int) (nomark _))) (fun _ _ _ _ _ => (pv 5)))
      (pss_cons (ps_asg (pe_ix (r := rIxL K) ix_list (pv 4) pe_int (fun _ _ => rfl)) (pg_tup (by rfl) (pgs_cons (pg_name (i := 6) sc_longest_order.nd rfl (by first | exact Or.inl rfl | exact Or.inr rfl)) (pgs_cons (pg_name (i := 0) sc_longest_order.nd rfl (by first | exact Or.inl rfl | exact Or.inr rfl)) pgs_nil))))
      (pss_one (ps_expr (pe_bm PySem.F.plainAttrs_list PySem.F.slot_list_append PySem.F.type_list_append mt_append (pv 3) (pa_cons (pv 6) pa_nil)))))))
      (pss_one (ps_ret (pv 3))))), ?_⟩
    have hfew := ringT_few n2 n12 m2 m100 rm rk
    refine ⟨Nat.zero_le _, fun l hl => ?_⟩
    refine ⟨fun mm σ H1 => ∃ (i : Nat) (c : Addr) (v4 v5 v6 : Option V), mm = h - i ∧ i ≤ h ∧ σ = [some (.ref c), some (.ref d), some (.ref e), some (.ref l), v4, v5, v6] ∧ Same H H1 ∧ H1 c = some (.tup ((ringT (m : Int) t r i).map V.int)) ∧ H1 l = some (.lst (ordV (orderT (m : Int) t r i))),
      ⟨_, 0, a, none, none, none, rfl, Nat.zero_le _, rfl, same_new hl, (same_new hl) _ _ ha, upd_same⟩, ?_⟩
    rintro mm σ H1 ⟨i, c, v4, v5, v6, rfl, hi, rfl, s1, hc, hl1⟩
    obtain ⟨im, ik⟩ := ringT_ok n2 n12 m2 m100 rm rk i hi
    have cK : H1 c = some (.tup ((keyOf (ringT (m : Int) t r i)).map kV)) := by rw [keyOf_V]; exact hc
    have heS : ∀ {H2 : Hp}, Same H1 H2 → DGet H2 e (.ref c) (some (.int ((h - i : Nat) : Int))) := fun {H2} s2 =>
      .inr ⟨svs, keyOf (ringT (m : Int) t r i), c, .inl (s2 _ _ (s1 _ _ he)), rfl, s2 _ _ cK, by rw [ST.2 _ im, ik]; rfl⟩
    refine ⟨_, rfl, _, rfl, e, _, rfl, heS (Same.refl H1), _, _, rfl, rfl, _, rfl, ite2 (fun c0 => ?_) (fun c0 => ?_)⟩
    · have c0 := of_decide_eq_true c0
      have ilt : i < h := by omega
      refine ⟨fun σ' H' => ∃ (c : Addr) (v4 v5 v6 : Option V), σ' = [some (.ref c), some (.ref d), some (.ref e), some (.ref l), v4, v5, v6] ∧ Same H H' ∧ H' c = some (.tup ((ringT (m : Int) t r (i + 1)).map V.int)) ∧ H' l = some (.lst (ordV (orderT (m : Int) t r (i + 1)))),
        fun σ' H' ⟨c', u4, u5, u6, e', a1, a2, a3⟩ => ⟨h - (i + 1), by omega, i + 1, c', u4, u5, u6, rfl, ilt, e', a1, a2, a3⟩, ?_⟩
      have ik2 : known (m : Int) t (ringT (m : Int) t r i) = some (h - i - 1 + 1) := by
        rw [ik]
        congr 1
        omega
      obtain ⟨t1, t2, t3⟩ := top_ok (able_neR n2 n12 m2 m100 im) ik2
      obtain ⟨w, hw, ps, WA1, WA2, WA3⟩ := (W.on s1).2 _ im
      have g1 : DGet H1 d (.ref c) (some (.ref w)) := .inr ⟨kvs, keyOf (ringT (m : Int) t r i), c, .inl (s1 _ _ hd), rfl, cK, hw.symm⟩
      have al2 := able_le (ringT (m : Int) t r i)
      have rl : (ringT (m : Int) t r i).length = n := (mem_allR.mp im).1
      generalize hX : ringT (m : Int) t r i = X at im ik ik2 hc cK t1 t2 t3 hw WA2 WA3 al2 rl
      refine ⟨_, rfl, _, rfl, d, _, rfl, g1, w, rfl, ⟨_, SqL.of WA1⟩, fun E hE => lc_list (K := K) (a := w) (xs := ps.map V.ref)
        (fun j H' => ∃ qs : List Addr, ListAt H1 E (qs.map V.ref) H' ∧ qs.length ≤ j ∧
          ((qs = [] ∧ ((able X).take j).find? (fun k => decide (known (m : Int) t (step (m : Int) X k) = some (h - i - 1))) = none) ∨
            ∃ q0 rest k b, qs = q0 :: rest ∧ H1 q0 = some (.tup [.int ((k : Nat) : Int), .ref b]) ∧ H1 b = some (.tup ((step (m : Int) X k).map V.int)) ∧ ((able X).take j).find? (fun k => decide (known (m : Int) t (step (m : Int) X k) = some (h - i - 1))) = some k))
        ⟨[], ListAt.mk0 (Same.refl H1) hE, Nat.zero_le _, .inl ⟨rfl, rfl⟩⟩ (fun j H' _ z => by
          obtain ⟨_, L, _⟩ := z
          exact SqL.of (L.1 _ _ WA1)) (fun j v H' hv z => ?_) fun H' z => ?_⟩
      · obtain ⟨qs, L, ql, alt⟩ := z
        obtain ⟨p, hp, rfl⟩ := tups_at hv
        have hj : j < (able X).length := by rw [← WA2]; exact (List.getElem?_eq_some_iff.mp hp).1
        have hk := List.getElem?_eq_getElem hj
        generalize (able X)[j] = k at hk
        obtain ⟨b, a1, a2⟩ := WA3 j p k hp hk
        have qm := all_step im n2 n12 m2 m100 k
        have ek := known_hgt (all _ qm)
        generalize hgt (m : Int) t (step (m : Int) X k) = y at ek
        have g3 : DGet H' e (.ref b) (some (.int (y : Int))) :=
          .inr ⟨svs, keyOf (step (m : Int) X k), b, .inl (L.1 _ _ (s1 _ _ he)), rfl, by rw [keyOf_V]; exact L.1 _ _ a2, by rw [ST.2 _ qm, ek]; rfl⟩
        refine ⟨rfl, _, rfl, _, rfl, p, _, 1, _, rfl, rfl, SqT.of (L.1 _ _ a1), rfl, e, _, rfl, g3, _, rfl, _, rfl, e, _, rfl, heS L.1, _, _, rfl, rfl, rfl, _, rfl, ?_⟩
        have tk := take_snoc hk
        have eqd : decide (V.int (y : Int) = V.int (((h - i : Nat) : Int) - 1)) = decide (y = h - i - 1) := by
          by_cases z : y = h - i - 1
          · rw [decide_eq_true z]
            exact decide_eq_true (by congr 1; omega)
          · rw [decide_eq_false z]
            exact decide_eq_false fun u => z (by have := V.int.inj u; omega)
        rw [eqd]
        by_cases z : y = h - i - 1
        · rw [decide_eq_true z]
          have pk : known (m : Int) t (step (m : Int) X k) = some (h - i - 1) := by rw [ek, z]
          refine iteT ⟨_, rfl, ?_⟩
          obtain ⟨acc, h1, h2, h3⟩ := L.push (l' := (qs ++ [p]).map V.ref) (y := .ref p) (Same.refl H') (by rw [List.length_map]; omega) (by rw [List.map_append]; rfl)
          refine ⟨acc, h1, h2, qs ++ [p], h3, by rw [List.length_append]; exact Nat.succ_le_succ ql, ?_⟩
          rw [tk, List.find?_append]
          rcases alt with ⟨e1, e2⟩ | ⟨q0, rest, k', b', e1, e2, e3, e4⟩
          · refine .inr ⟨p, [], k, b, by rw [e1]; rfl, a1, a2, ?_⟩
            rw [e2]
            simp [pk]
          · refine .inr ⟨q0, rest ++ [p], k', b', by rw [e1]; rfl, e2, e3, ?_⟩
            rw [e4]
            rfl
        · rw [decide_eq_false z]
          have pk : ¬ known (m : Int) t (step (m : Int) X k) = some (h - i - 1) := by
            rw [ek]
            exact fun u => z (Option.some.inj u)
          refine iteF ⟨qs, L, by omega, ?_⟩
          rw [tk, List.find?_append]
          rcases alt with ⟨e1, e2⟩ | ⟨q0, rest, k', b', e1, e2, e3, e4⟩
          · refine .inl ⟨e1, ?_⟩
            rw [e2]
            simp [pk]
          · refine .inr ⟨q0, rest, k', b', e1, e2, e3, ?_⟩
            rw [e4]
            rfl
      · obtain ⟨qs, L, ql, alt⟩ := z
        rw [List.length_map, WA2, List.take_length] at alt
        rcases alt with ⟨_, e2⟩ | ⟨q0, rest, k, b, e1, e2, e3, e4⟩
        · rw [e2] at t1
          cases t1
        have pk : topK (m : Int) t X = k := Option.some.inj (t1.symm.trans e4)
        refine ⟨_, rfl, E, _, 0, .ref q0, rfl, rfl, SqL.of L.2.2, refs_at (i := 0) rfl (by rw [e1]; rfl), q0, _, rfl, SqT.of (L.1 _ _ e2), rfl, _, _, rfl, _, _, rfl, rfl, ?_⟩
        refine ⟨_, rfl, .inl ⟨rfl, _, SqL.of (L.1 _ _ hl1)⟩, _, rfl, l, _, _, rfl, rfl, L.1 _ _ hl1, by rw [ordV_len, orderT_len, sizeLine_eq]; omega, ?_⟩
        have nbl : b ≠ l := ne_of (L.1 _ _ e3) (L.1 _ _ hl1) (fun z => nomatch z)
        refine ⟨b, _, _, _, rfl, ?_, ?_, ?_⟩
        · intro x o z
          exact (upd_ne (ne_of_none z hl)).trans ((s1.trans L.1) _ _ z)
        · refine (upd_ne nbl).trans ?_
          show _ = some (HO.tup ((step (m : Int) (ringT (m : Int) t r i) (topK (m : Int) t (ringT (m : Int) t r i))).map V.int))
          rw [hX, pk]
          exact L.1 _ _ e3
        · rw [orderT_succ, ordV_snoc, hX, pk]
          exact upd_same
    · have ih : i = h := by
        have : ¬ (0 : Int) < ((h - i : Nat) : Int) := fun z => c0 (decide_eq_true z)
        omega
      subst ih
      exact ⟨_, rfl, q l H1 s1 hl hl1⟩

/-! ### way_around -/
def placesV (f : Nat → List Int) (i : Nat) : List (List L2.Key × V) := (List.range i).map fun j : Nat => (keyOf (f j), V.int (j : Int))
theorem placesV_some {f : Nat → List Int} {i : Nat} {q : List Int} {v : V} (h : valV (placesV f i) (keyOf q) = some v) : ∃ j, j < i ∧ f j = q ∧ v = .int (j : Int) := by
  unfold valV at h
  obtain ⟨x, hx, e⟩ := Option.map_eq_some_iff.mp h
  have hm := List.mem_of_find?_eq_some hx
  have hp0 := List.find?_some hx
  have hp : x.1 = keyOf q := by simpa using hp0
  obtain ⟨j, hj, rfl⟩ := List.mem_map.mp hm
  exact ⟨j, List.mem_range.mp hj, keyOf_inj hp, e.symm⟩
theorem placesV_none {f : Nat → List Int} {i : Nat} {q : List Int} (h : valV (placesV f i) (keyOf q) = none) : ∀ j, j < i → f j ≠ q := fun j hj e => by
  have k : keyOf q ∈ (placesV f i).map (·.1) := by
    unfold placesV
    rw [List.map_map]
    exact List.mem_map.mpr ⟨j, List.mem_range.mpr hj, by rw [← e]; rfl⟩
  have := valV_key.mpr k
  rw [h] at this
  cases this
theorem placesV_succ (f : Nat → List Int) (i : Nat) : placesV f (i + 1) = placesV f i ++ [(keyOf (f i), V.int (i : Int))] := range_map_succ _ i
theorem Rd.on {H H' : Hp} {d : Addr} {u : HO} (h : Rd H d u) (s : Same H H') : Rd H' d u := h.elim (fun z => .inl (s _ _ z)) fun ⟨o, z⟩ => .inr ⟨o, s _ _ z⟩
def sp_way_around (K : PySem.W.Frag) : Sp := fun vs H Q _ => ∃ (a d e : Addr) (kvs svs : List (List L2.Key × V)) (n m t : Nat) (r : List Int), vs = [.ref a, .ref d, .ref e] ∧ H a = some (.tup (r.map V.int)) ∧ Rd H d (.dT kvs) ∧ WaysOf H (m : Int) kvs (allR m n) ∧ H e = some (.dT svs) ∧ StepsAt m n t svs ∧ stable m n t ∧
  r ∈ allR m n ∧ known (m : Int) t r = none ∧ 2 ≤ n ∧ n ≤ 12 ∧ 2 ≤ m ∧ m ≤ 100 ∧ m ^ n ≤ 300 ∧
  ∀ (p c o : Addr) (i j : Nat) (H' : Hp), Same H H' → j < i → i ≤ 300 → ((List.range i).map (ringW (m : Int) t r)).Nodup → ringW (m : Int) t r j = ringW (m : Int) t r i → H o = none → H' p = some (.tup [.ref c, .ref o]) → H' c = some (.tup ((ringW (m : Int) t r i).map V.int)) → H' o = some (.lst (ordV ((orderW (m : Int) t r i).drop j))) → Q (.ref p) H'
theorem ok_way_around (T : Top K mg base) : FnOk P w K mg base CX0 1 T.f_way_around T.d_way_around ["ring", "ways", "steps"] (sp_way_around K) := by
  refine T.F_way_around.ok sc_way_around (fun vs H Q E h => ?_) (fun cdv A outer s H vs Q E hr h => ?_)
  · obtain ⟨a, d, e, kvs, svs, n, m, t, r, rfl, ha, hd, W, he, ST, sb, rm, rk, n2, n12, m2, m100, few, q⟩ := h
    rfl
  · obtain ⟨a, d, e, kvs, svs, n, m, t, r, rfl, ha, hd, W, he, ST, sb, rm, rk, n2, n12, m2, m100, few, q⟩ := h
    refine ⟨_, (pss_cons (ps_set (i := 3) sc_way_around.nd rfl (by first | exact Or.inl rfl | exact Or.inr rfl) (pe_lst pa_nil))
      (pss_cons (ps_set (i := 4) sc_way_around.nd rfl (by first | exact Or.inl rfl | exact Or.inr rfl) pe_dnewT)
      (pss_cons (ps_while PassesOwn.never (pt_cmp (pc_dnotin (hu_of hr) (pv 0) (pv 4)))
      (pss_cons (ps_dput (hu_of hr) (pv 4) (pv 0) (pe_callB (r := HL.rLen K) HL.call_lenK (by rfl) T.n_len (by decide +kernel) (pa_cons (pv 3) pa_nil)) rfl)
      (pss_cons (ps_setLc (i := 5) (own := [("way", 6)]) (g := gName 6) (by rfl) sc_way_around.nd rfl rfl (sw_true rfl rfl rfl (by decide +kernel)) (pi_list (pe_dget (hu_of hr) (pv 1) (pv 0) (fun _ _ => rfl))) (blkOk_by (N := ["ring", "ways", "steps", "order", "places", "endless", "way", "machine"]) (sc := defScope s_way_around) (by decide +kernel)) (fun _ _ _ _ _ => pg_name (i := 6) sc_way_around.nd rfl (Or.inl rfl)) (fun _ _ _ _ _ => pts_one (pt_cmp (pc_dnotin (hu_of hr) (pe_ix (r := rIxT K) ix_tup (pv 6) pe_int (fun _ _ => rfl)) (pv 2)))) (fun _ _ _ _ _ => (pv 6)))
      (pss_cons (ps_asg (pe_ix (r := rIxL K) ix_list (pv 5) pe_int (fun _ _ => rfl)) (pg_tup (by rfl) (pgs_cons (pg_name (i := 7) sc_way_around.nd rfl (by first | exact Or.inl rfl | exact Or.inr rfl)) (pgs_cons (pg_name (i := 0) sc_way_around.nd rfl (by first | exact Or.inl rfl | exact Or.inr rfl)) pgs_nil))))
      (pss_one (ps_expr (pe_bm PySem.F.plainAttrs_list PySem.F.slot_list_append PySem.F.type_list_append mt_append (pv 3) (pa_cons (pv 7) pa_nil))))))))
      (pss_one (ps_ret (pe_tup (pa_cons (pv 0) (pa_cons (pe_slice (r := rSlL K) sl_list (pv 3) (po_some (pe_dget (hu_of hr) (pv 4) (pv 0) (fun _ _ => rfl))) po_none) pa_nil)))))))), ?_⟩
    refine ⟨Nat.zero_le _, fun l hl P hP => ?_⟩
    have hPn : H P = none := (same_new hl).free hP
    have nlP : l ≠ P := ne_of_none upd_same hP
    refine ⟨fun mm σ H1 => ∃ (i : Nat) (c : Addr) (v5 v6 v7 : Option V), mm = 301 - i ∧ σ = [some (.ref c), some (.ref d), some (.ref e), some (.ref l), some (.ref P), v5, v6, v7] ∧ Same H H1 ∧ H1 c = some (.tup ((ringW (m : Int) t r i).map V.int)) ∧ H1 l = some (.lst (ordV (orderW (m : Int) t r i))) ∧ H1 P = some (.dT (placesV (ringW (m : Int) t r) i)) ∧ ((List.range i).map (ringW (m : Int) t r)).Nodup,
      ⟨_, 0, a, none, none, none, rfl, rfl, same_upd2 (same_new hl) hP, (same_new hP) _ _ ((same_new hl) _ _ ha), (upd_ne nlP).trans upd_same, upd_same, List.nodup_nil⟩, ?_⟩
    rintro mm σ H1 ⟨i, c, v5, v6, v7, rfl, rfl, s1, hc, hl1, hP1, nd⟩
    obtain ⟨im, ik⟩ := ringW_ok n2 n12 m2 m100 sb rm rk i
    have il := ringW_few n2 n12 m2 m100 sb rm rk nd
    have cK : H1 c = some (.tup ((keyOf (ringW (m : Int) t r i)).map kV)) := by rw [keyOf_V]; exact hc
    have g0 : DGet H1 P (.ref c) (valV (placesV (ringW (m : Int) t r) i) (keyOf (ringW (m : Int) t r i))) := DGet.t hP1 cK
    refine ⟨_, rfl, _, rfl, P, _, rfl, g0, _, rfl, ?_⟩
    cases ev : valV (placesV (ringW (m : Int) t r) i) (keyOf (ringW (m : Int) t r i)) with
    | some v =>
      obtain ⟨j, hj, ej, rfl⟩ := placesV_some ev
      rw [ev] at g0
      refine iteF ?_
      refine ⟨_, rfl, _, rfl, _, rfl, _, rfl, P, _, rfl, g0, (j : Int), rfl, l, _, rfl, SqL.of hl1, fun o ho => ⟨small63 (by show 2 ≤ 1000; decide), fun p hp => ?_⟩⟩
      have e1 : cutV (ordV (orderW (m : Int) t r i)) (some (j : Int)) none = ordV ((orderW (m : Int) t r i).drop j) := by
        rw [cut_from]
        unfold ordV
        rw [List.map_drop]
      rw [e1] at hp ⊢
      have s2 := same_upd2 (o := HO.tup [V.ref c, V.ref o]) (same_new (o := HO.lst (ordV ((orderW (m : Int) t r i).drop j))) ho) hp
      exact q p c o i j _ (s1.trans s2) hj (by omega) nd ej (s1.free ho) upd_same (s2 _ _ hc) ((same_new hp) _ _ upd_same)
    | none =>
      refine iteT ?_
      have new := placesV_none ev
      have nd2 : ((List.range (i + 1)).map (ringW (m : Int) t r)).Nodup := by
        rw [range_map_succ, List.nodup_append]
        refine ⟨nd, List.nodup_cons.mpr ⟨List.not_mem_nil, List.nodup_nil⟩, fun x hx y hy e => ?_⟩
        obtain ⟨j, hj, rfl⟩ := List.mem_map.mp hx
        rw [List.mem_singleton.mp hy] at e
        exact new j (List.mem_range.mp hj) e
      have il2 := ringW_few n2 n12 m2 m100 sb rm rk nd2
      refine ⟨fun σ' H' => ∃ (c : Addr) (v5 v6 v7 : Option V), σ' = [some (.ref c), some (.ref d), some (.ref e), some (.ref l), some (.ref P), v5, v6, v7] ∧ Same H H' ∧ H' c = some (.tup ((ringW (m : Int) t r (i + 1)).map V.int)) ∧ H' l = some (.lst (ordV (orderW (m : Int) t r (i + 1)))) ∧ H' P = some (.dT (placesV (ringW (m : Int) t r) (i + 1))),
        fun σ' H' ⟨c', u5, u6, u7, e', a1, a2, a3, a4⟩ => ⟨301 - (i + 1), by omega, i + 1, c', u5, u6, u7, rfl, e', a1, a2, a3, a4, nd2⟩, ?_⟩
      refine ⟨_, rfl, l, _, rfl, .inl (SqL.of hl1), _, rfl, _, rfl, P, _, rfl, DPut.t hP1 cK (by unfold placesV; rw [List.length_map, List.length_range, sizeLine_eq]; omega), ?_⟩
      have eP : putK (placesV (ringW (m : Int) t r) i) (keyOf (ringW (m : Int) t r i)) (V.int ((ordV (orderW (m : Int) t r i)).length : Int)) = placesV (ringW (m : Int) t r) (i + 1) := by
        rw [putK_new _ ev, placesV_succ, ordV_len, orderW_len]
      rw [eP]
      have ncP : c ≠ P := ne_of hc hP1 (fun z => nomatch z)
      have nl2 : l ≠ P := nlP
      have s2 : Same H (upd H1 P (.dT (placesV (ringW (m : Int) t r) (i + 1)))) := fun b o z => (upd_ne (ne_of_none z hPn)).trans (s1 _ _ z)
      have hc2 := (upd_ne (H := H1) (o := HO.dT (placesV (ringW (m : Int) t r) (i + 1))) ncP).trans hc
      have hl2 := (upd_ne (H := H1) (o := HO.dT (placesV (ringW (m : Int) t r) (i + 1))) nl2).trans hl1
      have hP2 := upd_same (H := H1) (a := P) (o := HO.dT (placesV (ringW (m : Int) t r) (i + 1)))
      generalize upd H1 P (.dT (placesV (ringW (m : Int) t r) (i + 1))) = H2 at s2 hc2 hl2 hP2
      clear hc hl1 hP1 s1 g0 cK
      -- the ways that need not heal
      obtain ⟨w, hw, ps, WA1, WA2, WA3⟩ := (W.on s2).2 _ im
      have g1 : DGet H2 d (.ref c) (some (.ref w)) := .inr ⟨kvs, keyOf (ringW (m : Int) t r i), c, Rd.on hd s2, rfl, by rw [keyOf_V]; exact hc2, hw.symm⟩
      have al2 := able_le (ringW (m : Int) t r i)
      have rl : (ringW (m : Int) t r i).length = n := (mem_allR.mp im).1
      refine ⟨_, rfl, _, rfl, d, _, rfl, g1, w, rfl, ⟨_, SqL.of WA1⟩, fun E hE => lc_list (K := K) (a := w) (xs := ps.map V.ref)
        (fun j H' => ∃ qs : List Addr, ListAt H2 E (qs.map V.ref) H' ∧ qs.length ≤ j ∧
          ((qs = [] ∧ ((able (ringW (m : Int) t r i)).take j).find? (fun k => (known (m : Int) t (step (m : Int) (ringW (m : Int) t r i) k)).isNone) = none) ∨
            ∃ q0 rest k b, qs = q0 :: rest ∧ H2 q0 = some (.tup [.int ((k : Nat) : Int), .ref b]) ∧ H2 b = some (.tup ((step (m : Int) (ringW (m : Int) t r i) k).map V.int)) ∧ ((able (ringW (m : Int) t r i)).take j).find? (fun k => (known (m : Int) t (step (m : Int) (ringW (m : Int) t r i) k)).isNone) = some k))
        ⟨[], ListAt.mk0 (Same.refl H2) hE, Nat.zero_le _, .inl ⟨rfl, rfl⟩⟩ (fun j H' _ z => by
          obtain ⟨_, L, _⟩ := z
          exact SqL.of (L.1 _ _ WA1)) (fun j v H' hv z => ?_) fun H' z => ?_⟩
      · obtain ⟨qs, L, ql, alt⟩ := z
        obtain ⟨p, hp, rfl⟩ := tups_at hv
        have hj : j < (able (ringW (m : Int) t r i)).length := by rw [← WA2]; exact (List.getElem?_eq_some_iff.mp hp).1
        have hk := List.getElem?_eq_getElem hj
        generalize (able (ringW (m : Int) t r i))[j] = k at hk
        obtain ⟨b, a1, a2⟩ := WA3 j p k hp hk
        have g3 : DGet H' e (.ref b) ((known (m : Int) t (step (m : Int) (ringW (m : Int) t r i) k)).map fun h : Nat => V.int (h : Int)) :=
          .inr ⟨svs, keyOf (step (m : Int) (ringW (m : Int) t r i) k), b, .inl (L.1 _ _ (s2 _ _ he)), rfl, by rw [keyOf_V]; exact L.1 _ _ a2, (ST.2 _ (all_step im n2 n12 m2 m100 k)).symm⟩
        refine ⟨rfl, _, rfl, p, _, 1, _, rfl, rfl, SqT.of (L.1 _ _ a1), rfl, _, rfl, e, _, rfl, g3, _, rfl, ?_⟩
        have tk := take_snoc hk
        cases ek : known (m : Int) t (step (m : Int) (ringW (m : Int) t r i) k) with
        | some h =>
          refine iteF ⟨qs, L, by omega, ?_⟩
          rw [tk, List.find?_append]
          rcases alt with ⟨e1, e2⟩ | ⟨q0, rest, k', b', e1, e2, e3, e4⟩
          · refine .inl ⟨e1, ?_⟩
            rw [e2]
            simp [ek]
          · refine .inr ⟨q0, rest, k', b', e1, e2, e3, ?_⟩
            rw [e4]
            rfl
        | none =>
          refine iteT ⟨_, rfl, ?_⟩
          obtain ⟨acc, h1, h2, h3⟩ := L.push (l' := (qs ++ [p]).map V.ref) (y := .ref p) (Same.refl H') (by rw [List.length_map]; omega) (by rw [List.map_append]; rfl)
          refine ⟨acc, h1, h2, qs ++ [p], h3, by rw [List.length_append]; exact Nat.succ_le_succ ql, ?_⟩
          rw [tk, List.find?_append]
          rcases alt with ⟨e1, e2⟩ | ⟨q0, rest, k', b', e1, e2, e3, e4⟩
          · refine .inr ⟨p, [], k, b, by rw [e1]; rfl, a1, a2, ?_⟩
            rw [e2]
            simp [ek]
          · refine .inr ⟨q0, rest ++ [p], k', b', by rw [e1]; rfl, e2, e3, ?_⟩
            rw [e4]
            rfl
      · obtain ⟨qs, L, ql, alt⟩ := z
        rw [List.length_map, WA2, List.take_length] at alt
        obtain ⟨k0, ek0⟩ := unknown_next n2 n12 m2 m100 sb im ik
        rcases alt with ⟨_, e2⟩ | ⟨q0, rest, k, b, e1, e2, e3, e4⟩
        · rw [e2] at ek0
          cases ek0
        have pk : pickW (m : Int) t (ringW (m : Int) t r i) = k := by
          unfold pickW
          rw [e4]
          rfl
        refine ⟨_, rfl, E, _, 0, .ref q0, rfl, rfl, SqL.of L.2.2, refs_at (i := 0) rfl (by rw [e1]; rfl), q0, _, rfl, SqT.of (L.1 _ _ e2), rfl, _, _, rfl, _, _, rfl, rfl, ?_⟩
        refine ⟨_, rfl, .inl ⟨rfl, _, SqL.of (L.1 _ _ hl2)⟩, _, rfl, l, _, _, rfl, rfl, L.1 _ _ hl2, by rw [ordV_len, orderW_len, sizeLine_eq]; omega, ?_⟩
        have nbl : b ≠ l := ne_of (L.1 _ _ e3) (L.1 _ _ hl2) (fun z => nomatch z)
        refine ⟨b, _, _, _, rfl, ?_, ?_, ?_, ?_⟩
        · intro x o z
          exact (upd_ne (ne_of_none z hl)).trans ((s2.trans L.1) _ _ z)
        · refine (upd_ne nbl).trans ?_
          show _ = some (HO.tup ((step (m : Int) (ringW (m : Int) t r i) (pickW (m : Int) t (ringW (m : Int) t r i))).map V.int))
          rw [pk]
          exact L.1 _ _ e3
        · rw [orderW_succ, ordV_snoc, pk]
          exact upd_same
        · exact (upd_ne (Ne.symm nl2)).trans (L.1 _ _ hP2)

/-! ### never -/
/-- what a size is refused with -/
def refuseSize (n m : Int) : Option Nat := if m < 2 ∨ 100 < m then some 0 else if n < 2 ∨ 12 < n then some 1 else if 300 < m ^ n.toNat then some 5 else none
def sp_never (K : PySem.W.Frag) (cs : List Addr) : Sp := fun vs H Q E => ∃ (n m : Int), vs = [.int n, .int m] ∧ (∀ j, refuseSize n m = some j → ∀ C, cs[j]? = some C → E (.ref C) none H) ∧ (refuseSize n m = none →
  (∀ t, stable m.toNat n.toNat t → (∀ r ∈ allR m.toNat n.toNat, known m t r ≠ none) → ∀ H', Same H H' → Q .non H') ∧
  ∀ (t : Nat) (r : List Int) (p c o : Addr) (i j : Nat) (H' : Hp), stable m.toNat n.toNat t → r ∈ allR m.toNat n.toNat → known m t r = none → Same H H' → j < i → i ≤ 300 → ((List.range i).map (ringW m t r)).Nodup → FirstU m.toNat n.toNat t r → ringW m t r j = ringW m t r i → H o = none → H' p = some (.tup [.ref c, .ref o]) → H' c = some (.tup ((ringW m t r i).map V.int)) → H' o = some (.lst (ordV ((orderW m t r i).drop j))) → Q (.ref p) H')
theorem ok_never (T : Top K mg base) : FnOk P w K mg base (L2N.CX P w) 6 T.f_never T.d_never ["machines", "many"] (sp_never K T.cs) := by
  refine okN T.F_never sc_never (fun vs H Q E h => ?_) (fun cdv A outer s H vs Q E hr h => ?_)
  · obtain ⟨n, m, rfl, kE, kQ⟩ := h
    rfl
  · obtain ⟨n, m, rfl, kE, kQ⟩ := h
    refine ⟨_, (pss_cons (ps_expr (pe_call (ok_check_many T) (hr.mono (by decide)) (by rfl) T.g_check_many T.F_check_many.kp T.b_check_many .nil (fun _ _ _ _ _ _ i c => L2N.passes_call (L2N.takes_of rfl rfl rfl rfl) (fun _ _ _ _ h => h) _ _ _ _ _ _ i c) (pa_cons (pv 1) pa_nil)))
      (pss_cons (ps_expr (pe_call (ok_check_machines T) (hr.mono (by decide)) (by rfl) T.g_check_machines T.F_check_machines.kp T.b_check_machines .nil (fun _ _ _ _ _ _ i c => L2N.passes_call (L2N.takes_of rfl rfl rfl rfl) (fun _ _ _ _ h => h) _ _ _ _ _ _ i c) (pa_cons (pv 0) pa_nil)))
      (pss_cons (ps_expr (pe_call (ok_check_few T) (hr.mono (by decide)) (by rfl) T.g_check_few T.F_check_few.kp T.b_check_few .nil (fun _ _ _ _ _ _ i c => L2N.passes_call (L2N.takes_of rfl rfl rfl rfl) (fun _ _ _ _ h => h) _ _ _ _ _ _ i c) (pa_cons (pv 0) (pa_cons (pv 1) pa_nil))))
      (pss_cons (ps_set (i := 2) sc_never.nd rfl (by first | exact Or.inl rfl | exact Or.inr rfl) (pe_call (ok_all_ways T) (hr.mono (by decide)) (by rfl) T.g_all_ways T.F_all_ways.kp T.b_all_ways .nil pass0 (pa_cons (pv 0) (pa_cons (pv 1) pa_nil))))
      (pss_cons (ps_set (i := 3) sc_never.nd rfl (by first | exact Or.inl rfl | exact Or.inr rfl) (pe_call (ok_longest_steps T) (hr.mono (by decide)) (by rfl) T.g_longest_steps T.F_longest_steps.kp T.b_longest_steps .nil pass0 (pa_cons (pv 2) pa_nil)))
      (pss_cons (ps_lock (ps_for (passes_of rfl) rfl (pi_keys (pv 2)) (pg_name (i := 4) sc_never.nd rfl (by first | exact Or.inl rfl | exact Or.inr rfl))
      (pss_one (ps_if (pt_cmp (pc_dnotin (hu_of hr) (pv 4) (pv 3)))
      (pss_one (ps_ret (pe_call (ok_way_around T) (hr.mono (by decide)) (by rfl) T.g_way_around T.F_way_around.kp T.b_way_around .nil pass0 (pa_cons (pv 4) (pa_cons (pv 2) (pa_cons (pv 3) pa_nil))))))
      pss_nil))))
      (pss_one (ps_ret pe_non)))))))), ?_⟩
    refine ⟨_, rfl, m, rfl, fun c C hC => kE 0 (if_pos c) C hC, fun c => ?_⟩
    unfold refuseSize at kE kQ
    rw [if_neg c] at kE kQ
    refine ⟨_, rfl, n, rfl, fun c2 C hC => kE 1 (if_pos c2) C hC, fun c2 => ?_⟩
    rw [if_neg c2] at kE kQ
    refine ⟨_, rfl, _, rfl, n, m, rfl, by omega, by omega, by omega, by omega, fun c3 C hC => kE 5 (if_pos c3) C hC, fun c3 => ?_⟩
    rw [if_neg c3] at kQ
    obtain ⟨qN, qW⟩ := kQ rfl
    obtain ⟨n', rfl⟩ : ∃ n' : Nat, n = (n' : Int) := ⟨n.toNat, by omega⟩
    obtain ⟨m', rfl⟩ : ∃ m' : Nat, m = (m' : Int) := ⟨m.toNat, by omega⟩
    have tn : ((n' : Int)).toNat = n' := rfl
    have tm : ((m' : Int)).toNat = m' := rfl
    rw [tn, pow_cast] at c3
    have few : m' ^ n' ≤ 300 := by omega
    rw [tn, tm] at qN qW
    have n2 : 2 ≤ n' := by omega
    have n12 : n' ≤ 12 := by omega
    have m2 : 2 ≤ m' := by omega
    have m100 : m' ≤ 100 := by omega
    refine ⟨_, rfl, _, rfl, n', m', rfl, n2, n12, m2, m100, few, fun d kvs H1 s1 hdn hd W => ?_⟩
    refine ⟨_, rfl, d, kvs, n', m', rfl, hd, W, n2, n12, m2, m100, few, fun t D svs H2 sb s2 hDn hD ST => ?_⟩
    have hd2 := s2 _ _ hd
    have W2 := W.on s2
    have s12 := s1.trans s2
    have kl : kvs.length = (allR m' n').length := by
      have := congrArg List.length W.1
      rw [List.length_map, List.length_map] at this
      exact this
    have keyAt : ∀ {i : Nat} {k : List L2.Key} {v : V}, kvs[i]? = some (k, v) → ∃ r, (allR m' n')[i]? = some r ∧ k = keyOf r := fun {i k v} h => by
      have e := congrArg (fun l : List (List L2.Key) => l[i]?) W.1
      simp only [List.getElem?_map, h] at e
      cases er : (allR m' n')[i]? with
      | none =>
        rw [er] at e
        cases e
      | some r =>
        rw [er] at e
        exact ⟨r, rfl, Option.some.inj e⟩
    refine ⟨d, _, hd2, trivial, fun od => ?_⟩
    have nd : D ≠ d := fun e => by
      rw [e, hd] at hDn
      cases hDn
    have hl := upd_same (H := H2) (a := d) (o := HO.frz od (.dT kvs))
    have hDl : upd H2 d (.frz od (.dT kvs)) D = some (.dT svs) := (upd_ne nd).trans hD
    have Wl := W2.wr (o' := HO.frz od (.dT kvs)) hd2 (fun xs e => by cases e) (fun xs e => by cases e)
    have back : ∀ {H' : Hp}, Same (upd H2 d (.frz od (.dT kvs))) H' → Same H (upd H' d (.dT kvs)) := fun s => s12.trans (same_unlock hd2 s)
    refine ⟨_, rfl, d, od, rfl, .inr ⟨kvs, hl, for_it (walk_keysT (d := d) (o := od) (kvs := kvs))
      (fun i σ H' => ∃ v4 : Option V, σ = [some (.int (n' : Int)), some (.int (m' : Int)), some (.ref d), some (.ref D), v4] ∧ H' = upd H2 d (.frz od (.dT kvs)) ∧ ∀ r ∈ (allR m' n').take i, known (m' : Int) t r ≠ none)
      ⟨none, rfl, rfl, fun r hr => by cases hr⟩ (fun i σ H' _ z => by
        obtain ⟨_, _, z, _⟩ := z
        rw [z]
        exact hl) (fun i v σ H' H3 hi z y => ?_) fun σ H' z => ?_⟩⟩
    · obtain ⟨v4, rfl, rfl, kn⟩ := z
      obtain ⟨rfl, k, v', c, hk, rfl, hc⟩ := y
      obtain ⟨r, er, rfl⟩ := keyAt hk
      have rm : r ∈ allR m' n' := List.mem_of_getElem? er
      have g2 : DGet (upd H2 d (.frz od (.dT kvs))) D (.ref c) ((known (m' : Int) t r).map fun h : Nat => V.int (h : Int)) := .inr ⟨svs, keyOf r, c, .inl hDl, rfl, hc, (ST.2 r rm).symm⟩
      refine ⟨_, rfl, _, rfl, D, _, rfl, g2, _, rfl, ?_⟩
      cases ek : known (m' : Int) t r with
      | none =>
        refine iteT ?_
        rw [keyOf_V] at hc
        refine ⟨_, rfl, _, rfl, _, rfl, c, d, D, kvs, svs, n', m', t, r, rfl, hc, .inr ⟨od, hl⟩, Wl, hDl, ST, sb, rm, ek, n2, n12, m2, m100, few, fun p b o i' j H' s' hj hi' nd' ej ho hp hb hoo => ?_⟩
        have hf := s' _ _ hl
        have ne : ∀ {x : Addr} {z : HO}, H' x = some z → (∀ o' u, z ≠ .frz o' u) → upd H' d (.dT kvs) x = some z := fun {x z} hx hz => (upd_ne fun e => by
          rw [e, hf] at hx
          exact hz _ _ (Option.some.inj hx).symm).trans hx
        have nod : o ≠ d := fun e => by
          rw [e, hl] at ho
          cases ho
        have ho2 : H2 o = none := by
          rw [upd_ne nod] at ho
          exact ho
        exact ⟨hf, qW t r p b o i' j _ sb rm ek (back s') hj hi' nd' ⟨_, er, ek, kn⟩ ej (s12.free ho2) (ne hp fun _ _ z => nomatch z) (ne hb fun _ _ z => nomatch z) (ne hoo fun _ _ z => nomatch z)⟩
      | some h =>
        refine iteF ⟨_, rfl, rfl, fun r' hr' => ?_⟩
        rw [take_snoc er] at hr'
        rcases List.mem_append.mp hr' with z | z
        · exact kn r' z
        · rw [List.mem_singleton.mp z, ek]
          exact fun y => nomatch y
    · obtain ⟨v4, rfl, rfl, kn⟩ := z
      rw [kl, List.take_length] at kn
      refine ⟨hl, ?_⟩
      exact qN t sb kn _ (back (Same.refl _))

/-! ### worst -/
/-- what a size is refused with, where the worst is asked -/
def refuseWorst (n m : Int) : Option Nat := if m < 2 ∨ 100 < m then some 0 else if n < 2 ∨ 12 < n then some 1 else if m < n then some 0 else if 300 < m ^ n.toNat then some 5 else none
def sp_worst (K : PySem.W.Frag) (cs : List Addr) (P : Addr) : Sp := fun vs H Q E => ∃ (n m : Int), vs = [.int n, .int m] ∧ LamX.Tabs (lamT "worst" P) H ∧ (∀ j, refuseWorst n m = some j → ∀ C, cs[j]? = some C → E (.ref C) none H) ∧ (refuseWorst n m = none →
  ∀ (t : Nat) (r : List Int) (p c o : Addr) (H' : Hp), stable m.toNat n.toNat t → Top1 m.toNat n.toNat t r → LamX.ExtN H H' → LamX.Tabs (lamT "worst" P) H' → (∀ x, H o = some x → ∃ ps, x = .tbl ps) → H' p = some (.tup [.ref c, .ref o]) → H' c = some (.tup (r.map V.int)) → H' o = some (.lst (ordV (orderT m t r (hgt m t r)))) → Q (.ref p) H')
theorem ok_worst (T : Top K mg base) : FnOk P w K mg base (L2N.CX P w) 6 T.f_worst T.d_worst ["machines", "many"] (sp_worst K T.cs T.P_worst) := by
  refine HL.okNC T.hc_worst T.F_worst sc_worst (fun vs H Q E h => ?_) (fun A outer s H vs Q E hr h => ?_)
  · obtain ⟨n, m, rfl, TT, kE, kQ⟩ := h
    rfl
  · obtain ⟨n, m, rfl, TT, kE, kQ⟩ := h
    refine ⟨_, (pss_cons (ps_expr (pe_call (ok_check_many T) (hr.mono (by decide)) (by rfl) T.g_check_many T.F_check_many.kp T.b_check_many .nil (fun _ _ _ _ _ _ i c => L2N.passes_call (L2N.takes_of rfl rfl rfl rfl) (fun _ _ _ _ h => h) _ _ _ _ _ _ i c) (pa_cons (pv 1) pa_nil)))
      (pss_cons (ps_expr (pe_call (ok_check_machines T) (hr.mono (by decide)) (by rfl) T.g_check_machines T.F_check_machines.kp T.b_check_machines .nil (fun _ _ _ _ _ _ i c => L2N.passes_call (L2N.takes_of rfl rfl rfl rfl) (fun _ _ _ _ h => h) _ _ _ _ _ _ i c) (pa_cons (pv 0) pa_nil)))
      (pss_cons (ps_expr (pe_call (ok_check_enough T) (hr.mono (by decide)) (by rfl) T.g_check_enough T.F_check_enough.kp T.b_check_enough .nil (fun _ _ _ _ _ _ i c => L2N.passes_call (L2N.takes_of rfl rfl rfl rfl) (fun _ _ _ _ h => h) _ _ _ _ _ _ i c) (pa_cons (pv 1) (pa_cons (pv 0) pa_nil))))
      (pss_cons (ps_expr (pe_call (ok_check_few T) (hr.mono (by decide)) (by rfl) T.g_check_few T.F_check_few.kp T.b_check_few .nil (fun _ _ _ _ _ _ i c => L2N.passes_call (L2N.takes_of rfl rfl rfl rfl) (fun _ _ _ _ h => h) _ _ _ _ _ _ i c) (pa_cons (pv 0) (pa_cons (pv 1) pa_nil))))
      (pss_cons (ps_set (i := 2) sc_worst.nd rfl (by first | exact Or.inl rfl | exact Or.inr rfl) (pe_call (ok_all_ways T) (hr.mono (by decide)) (by rfl) T.g_all_ways T.F_all_ways.kp T.b_all_ways .nil pass0 (pa_cons (pv 0) (pa_cons (pv 1) pa_nil))))
      (pss_cons (ps_set (i := 3) sc_worst.nd rfl (by first | exact Or.inl rfl | exact Or.inr rfl) (pe_call (ok_longest_steps T) (hr.mono (by decide)) (by rfl) T.g_longest_steps T.F_longest_steps.kp T.b_longest_steps .nil pass0 (pa_cons (pv 2) pa_nil)))
      (pss_cons (ps_lock (ps_set (i := 4) sc_worst.nd rfl (by first | exact Or.inl rfl | exact Or.inr rfl) (HL.pe_maxL (k := 0) (T := HL.lamT "worst" T.P_worst) (NL := ["start", "steps"]) (fr := ["steps"]) (a := "start") (js := [3]) rfl (by rfl) T.n_max (pv 2) T.TB_worst rfl (HL.lamT_mem (by rfl)) (HL.lamT_one (by rfl)) (hr.mono (by decide)) (by rfl) (NdefX.ndef_free (sc := defScope s_worst) (fr := ["steps"]) (by decide +kernel)) (NdefX.ndef_fr (sc := defScope s_worst) (by decide +kernel)) (by rfl) (NdefX.nscope_by (by decide +kernel)) (fun _ _ _ _ _ _ => rfl) (fun _ _ _ _ _ _ _ _ _ hr => (pe_dget (hu_of hr) (pv 1) (pv 0) (fun _ _ => rfl))))))
      (pss_one (ps_ret (pe_tup (pa_cons (pv 4) (pa_cons (pe_call (ok_longest_order T) (hr.mono (by decide)) (by rfl) T.g_longest_order T.F_longest_order.kp T.b_longest_order .nil pass0 (pa_cons (pv 4) (pa_cons (pv 2) (pa_cons (pv 3) pa_nil)))) pa_nil)))))))))))), ?_⟩
    refine ⟨_, rfl, m, rfl, fun c C hC => kE 0 (if_pos c) C hC, fun c => ?_⟩
    unfold refuseWorst at kE kQ
    rw [if_neg c] at kE kQ
    refine ⟨_, rfl, n, rfl, fun c2 C hC => kE 1 (if_pos c2) C hC, fun c2 => ?_⟩
    rw [if_neg c2] at kE kQ
    refine ⟨_, rfl, _, rfl, m, n, rfl, fun c3 C hC => kE 0 (if_pos c3) C hC, fun c3 => ?_⟩
    rw [if_neg c3] at kE kQ
    refine ⟨_, rfl, _, rfl, n, m, rfl, by omega, by omega, by omega, by omega, fun c4 C hC => kE 5 (if_pos c4) C hC, fun c4 => ?_⟩
    rw [if_neg c4] at kQ
    have kQ := kQ rfl
    obtain ⟨n', rfl⟩ : ∃ n' : Nat, n = (n' : Int) := ⟨n.toNat, by omega⟩
    obtain ⟨m', rfl⟩ : ∃ m' : Nat, m = (m' : Int) := ⟨m.toNat, by omega⟩
    have tn : ((n' : Int)).toNat = n' := rfl
    have tm : ((m' : Int)).toNat = m' := rfl
    rw [tn, pow_cast] at c4
    have few : m' ^ n' ≤ 300 := by omega
    rw [tn, tm] at kQ
    have n2 : 2 ≤ n' := by omega
    have n12 : n' ≤ 12 := by omega
    have m2 : 2 ≤ m' := by omega
    have m100 : m' ≤ 100 := by omega
    have nm : n' ≤ m' := by omega
    refine ⟨_, rfl, _, rfl, n', m', rfl, n2, n12, m2, m100, few, fun d kvs H1 s1 hdn hd W => ?_⟩
    refine ⟨_, rfl, d, kvs, n', m', rfl, hd, W, n2, n12, m2, m100, few, fun t D svs H2 sb s2 hDn hD ST => ?_⟩
    have hd2 := s2 _ _ hd
    have W2 := W.on s2
    have s12 := s1.trans s2
    have all : ∀ q ∈ allR m' n', known (m' : Int) t q ≠ none := fun q hq => all_known n2 n12 m2 m100 nm sb hq
    have kl : kvs.length = (allR m' n').length := by
      have := congrArg List.length W.1
      rw [List.length_map, List.length_map] at this
      exact this
    have keyAt : ∀ {i : Nat} {k : List L2.Key} {v : V}, kvs[i]? = some (k, v) → ∃ r, (allR m' n')[i]? = some r ∧ k = keyOf r := fun {i k v} h => by
      have e := congrArg (fun l : List (List L2.Key) => l[i]?) W.1
      simp only [List.getElem?_map, h] at e
      cases er : (allR m' n')[i]? with
      | none =>
        rw [er] at e
        cases e
      | some r =>
        rw [er] at e
        exact ⟨r, rfl, Option.some.inj e⟩
    refine ⟨d, _, hd2, trivial, fun od => ?_⟩
    have nd : D ≠ d := fun e => by
      rw [e, hd] at hDn
      cases hDn
    have hl := upd_same (H := H2) (a := d) (o := HO.frz od (.dT kvs))
    have hDl : upd H2 d (.frz od (.dT kvs)) D = some (.dT svs) := (upd_ne nd).trans hD
    refine ⟨_, rfl, HL.tabs_wr (HL.tabs_same TT s12) hd2 (fun _ z => nomatch z) (fun _ _ z => nomatch z), fun H3 eN T3 => ?_⟩
    have hd3 := eN _ _ hl (fun _ z => nomatch z)
    have hD3 := eN _ _ hDl (fun _ z => nomatch z)
    refine ⟨d, od, kvs, fun j => (hgt (m' : Int) t ((allR m' n').getD j []) : Int), rfl, hd3, by rw [kl, allR_len]; exact Nat.pow_pos (by omega), fun i k v tt hk ht => ?_, fun i k v tt hk ht best => ?_⟩
    · obtain ⟨r, er, rfl⟩ := keyAt hk
      have rm : r ∈ allR m' n' := List.mem_of_getElem? er
      have eg : (allR m' n').getD i [] = r := by rw [List.getD_eq_getElem?_getD, er]; rfl
      refine ⟨_, rfl, _, rfl, D, _, rfl, .inr ⟨svs, keyOf r, tt, .inl hD3, rfl, ht, ?_⟩, rfl, rfl⟩
      rw [ST.2 r rm, known_hgt (all r rm)]
      show some (V.int (hgt (m' : Int) t ((allR m' n').getD i []) : Int)) = some (V.int _)
      rw [eg]
    obtain ⟨r, er, rfl⟩ := keyAt hk
    have rm : r ∈ allR m' n' := List.mem_of_getElem? er
    have top : Top1 m' n' t r := ⟨i, er, by rw [← kl]; exact best⟩
    rw [keyOf_V] at ht
    refine ⟨hd3, ?_⟩
    have ntd : tt ≠ d := ne_of ht hd3 (fun z => nomatch z)
    have e24 : LamX.ExtN H2 (upd H3 d (.dT kvs)) := HL.extN_unlock hd2 eN
    have e4 : LamX.ExtN H (upd H3 d (.dT kvs)) := (HL.same_extN s12).trans e24
    have T4 : LamX.Tabs (lamT "worst" T.P_worst) (upd H3 d (.dT kvs)) := HL.tabs_wr T3 hd3 (fun _ z => nomatch z) (fun _ _ z => nomatch z)
    have hd4 := upd_same (H := H3) (a := d) (o := HO.dT kvs)
    have ht4 := (upd_ne (H := H3) (o := HO.dT kvs) ntd).trans ht
    have hD4 := e24 _ _ hD (fun _ z => nomatch z)
    have W4 := W2.onN e24
    generalize upd H3 d (.dT kvs) = H4 at e4 e24 T4 hd4 ht4 hD4 W4
    refine ⟨_, rfl, _, rfl, _, rfl, _, rfl, tt, d, D, kvs, svs, n', m', t, hgt (m' : Int) t r, r, rfl, ht4, hd4, W4, hD4, ST, all, rm, known_hgt (all r rm), n2, n12, m2, m100, few, fun o H5 s5 hon ho => ⟨small63 (by show 2 ≤ 1000; decide), fun p hp => ?_⟩⟩
    have s6 := same_new (o := HO.tup [V.ref tt, V.ref o]) hp
    refine kQ t r p tt o _ sb top (e4.trans (HL.same_extN (s5.trans s6))) (HL.tabs_same T4 (s5.trans s6)) (fun x hx => ?_) upd_same (s6 _ _ (s5 _ _ ht4)) (s6 _ _ ho)
    cases x with
    | tbl ps => exact ⟨ps, rfl⟩
    | _ =>
      have := e4 _ _ hx (fun _ z => nomatch z)
      rw [hon] at this
      cases this

/-! ### _law_small -/
/-- what the small rings tell -/
def SmallIs (w : Nat) (c : Int) (q : List Int) (ks : List Nat) : Prop :=
  if w = 0 then ∃ t, stable (3 + c / 2 % 2).toNat (2 + c % 2).toNat t ∧ Top1 (3 + c / 2 % 2).toNat (2 + c % 2).toNat t q ∧ ks = orderT (3 + c / 2 % 2) t q (hgt (3 + c / 2 % 2) t q)
  else (∃ t, stable (2 + c / 2 % 2).toNat (3 + c % 2).toNat t ∧ (∀ r ∈ allR (2 + c / 2 % 2).toNat (3 + c % 2).toNat, known (2 + c / 2 % 2) t r ≠ none) ∧ q = [] ∧ ks = []) ∨
    ∃ (t : Nat) (r : List Int) (i j : Nat), stable (2 + c / 2 % 2).toNat (3 + c % 2).toNat t ∧ FirstU (2 + c / 2 % 2).toNat (3 + c % 2).toNat t r ∧ ((List.range i).map (ringW (2 + c / 2 % 2) t r)).Nodup ∧ j < i ∧ ringW (2 + c / 2 % 2) t r j = ringW (2 + c / 2 % 2) t r i ∧ q = ringW (2 + c / 2 % 2) t r i ∧ ks = (orderW (2 + c / 2 % 2) t r i).drop j
theorem small_one {w : Nat} {c : Int} {q q' : List Int} {ks ks' : List Nat} (h : SmallIs w c q ks) (h' : SmallIs w c q' ks') : q = q' ∧ ks = ks' := by
  unfold SmallIs at h h'
  have b0 := Int.emod_nonneg c (b := 2) (by decide)
  have b1 := Int.emod_lt_of_pos c (b := 2) (by decide)
  have b2 := Int.emod_nonneg (c / 2) (b := 2) (by decide)
  have b3 := Int.emod_lt_of_pos (c / 2) (b := 2) (by decide)
  by_cases e : w = 0
  · rw [if_pos e] at h h'
    obtain ⟨m, hm⟩ : ∃ m : Nat, 3 + c / 2 % 2 = (m : Int) := ⟨(3 + c / 2 % 2).toNat, by omega⟩
    obtain ⟨n, hn⟩ : ∃ n : Nat, (2 + c % 2).toNat = n := ⟨_, rfl⟩
    rw [hm, hn] at h h'
    have tm : ((m : Int)).toNat = m := rfl
    rw [tm] at h h'
    obtain ⟨t, s, T, rfl⟩ := h
    obtain ⟨u, s', T', rfl⟩ := h'
    have n2 : 2 ≤ n := by omega
    have n12 : n ≤ 12 := by omega
    have m2 : 2 ≤ m := by omega
    have m100 : m ≤ 100 := by omega
    have T2 := T'.other n2 n12 m2 m100 s' s
    have hq : q = q' := by
      cases lq : HT.lexLt q' q with
      | false => exact T2.least T.mem (Nat.le_antisymm (T2.le T.mem) (T.le T2.mem)) lq
      | true =>
        refine (T.least T2.mem (Nat.le_antisymm (T.le T2.mem) (T2.le T.mem)) ?_).symm
        cases l2 : HT.lexLt q q' with
        | false => rfl
        | true =>
          have := lex_trans lq l2
          rw [lex_irr] at this
          cases this
    subst hq
    exact ⟨rfl, by rw [orderT_one n2 n12 m2 m100 s s' T.mem, hgt_one n2 n12 m2 m100 s s' T.mem]⟩
  · rw [if_neg e] at h h'
    obtain ⟨m, hm⟩ : ∃ m : Nat, 2 + c / 2 % 2 = (m : Int) := ⟨(2 + c / 2 % 2).toNat, by omega⟩
    obtain ⟨n, hn⟩ : ∃ n : Nat, (3 + c % 2).toNat = n := ⟨_, rfl⟩
    rw [hm, hn] at h h'
    have tm : ((m : Int)).toNat = m := rfl
    rw [tm] at h h'
    have n2 : 2 ≤ n := by omega
    have n12 : n ≤ 12 := by omega
    have m2 : 2 ≤ m := by omega
    have m100 : m ≤ 100 := by omega
    have no : ∀ {t u : Nat} {r : List Int}, stable m n t → stable m n u → (∀ r ∈ allR m n, known (m : Int) t r ≠ none) → FirstU m n u r → False := fun {t u r} s s' al F => by
      obtain ⟨k, e, kn, _⟩ := F
      have rm := List.mem_of_getElem? e
      exact al r rm ((stable_one n2 n12 m2 m100 s s' rm).trans kn)
    rcases h with ⟨t, s, al, rfl, rfl⟩ | ⟨t, r, i, j, s, F, nd, ji, ej, rfl, rfl⟩
    · rcases h' with ⟨u, s', al', rfl, rfl⟩ | ⟨u, r', i', j', s', F', nd', ji', ej', rfl, rfl⟩
      · exact ⟨rfl, rfl⟩
      · exact (no s s' al F').elim
    · rcases h' with ⟨u, s', al', rfl, rfl⟩ | ⟨u, r', i', j', s', F', nd', ji', ej', rfl, rfl⟩
      · exact (no s' s al' F).elim
      · have er := FirstU.one n2 n12 m2 m100 s s' F F'
        subst er
        have rw1 : ∀ i, ringW (m : Int) u r i = ringW (m : Int) t r i := fun i => (ringW_one n2 n12 m2 m100 s' s F.mem i).1
        have ef : ringW (m : Int) u r = ringW (m : Int) t r := funext rw1
        rw [ef] at nd' ej' ⊢
        obtain ⟨e1, e2⟩ := again_one nd nd' ji ej ji' ej'
        subst e1 e2
        exact ⟨rfl, by rw [orderW_one n2 n12 m2 m100 s s' F.mem]⟩
def sp__law_small (K : PySem.W.Frag) (P : Addr) : Sp := fun vs H Q _ => ∃ (w : Nat) (a : Addr) (ns : List Int), vs = [.int (w : Int), .ref a] ∧ w < 2 ∧ SqL K H a (ns.map V.int) ∧ ns.length ≤ 63 ∧ LamX.Tabs (lamT "worst" P) H ∧
  ∀ (q : List Int) (ks : List Nat) (p c o : Addr) (H' : Hp), SmallIs w (cell ns 0) q ks → LamX.ExtN H H' → LamX.Tabs (lamT "worst" P) H' → (∀ x, H o = some x → ∃ ps, x = .tbl ps) → H' p = some (.tup [.ref c, .ref o]) → H' c = some (.tup (q.map V.int)) → H' o = some (.lst (ordV ks)) → ks.length ≤ 1000 → Q (.ref p) H'
theorem ok__law_small (T : Top K mg base) : FnOk P w K mg base CX0 7 T.f__law_small T.d__law_small ["_law_way", "_law_script"] (sp__law_small K T.P_worst) := by
  refine T.F__law_small.ok sc__law_small (fun vs H Q E h => ?_) (fun cdv A outer s H vs Q E hr h => ?_)
  · obtain ⟨w, a, ns, rfl, w2, hS, hl, TT, q⟩ := h
    rfl
  · obtain ⟨w, a, ns, rfl, w2, hS, hl, TT, q⟩ := h
    refine ⟨_, (pss_cons (ps_set (i := 2) sc__law_small.nd rfl (by first | exact Or.inl rfl | exact Or.inr rfl) (pe_call (ok__law_cell_at T) (hr.mono (by decide)) (by rfl) T.g__law_cell_at T.F__law_cell_at.kp T.b__law_cell_at .nil pass0 (pa_cons (pv 1) (pa_cons pe_int pa_nil))))
      (pss_cons (ps_if (pt_cmpR op_eq (pv 0) pe_int (nomark _))
      (pss_one (ps_ret (pe_call (ok_worst T) (hr.mono (by decide)) (by rfl) T.g_worst T.F_worst.kp T.b_worst .nil HL.passN (pa_cons (pe_op op_add pe_int (pe_op op_mod (pv 2) pe_int)) (pa_cons (pe_op op_add pe_int (pe_op op_mod (pe_op op_fdiv (pv 2) pe_int) pe_int)) pa_nil)))))
      pss_nil)
      (pss_cons (ps_set (i := 3) sc__law_small.nd rfl (by first | exact Or.inl rfl | exact Or.inr rfl) (pe_call (ok_never T) (hr.mono (by decide)) (by rfl) T.g_never T.F_never.kp T.b_never .nil HL.passN (pa_cons (pe_op op_add pe_int (pe_op op_mod (pv 2) pe_int)) (pa_cons (pe_op op_add pe_int (pe_op op_mod (pe_op op_fdiv (pv 2) pe_int) pe_int)) pa_nil))))
      (pss_one (ps_ret (pe_ifExp (pt_cmpR op_isN (pv 3) pe_non (nomark _)) (pe_tup (pa_cons (pe_tup pa_nil) (pa_cons (pe_lst pa_nil) pa_nil))) (pv 3))))))), ?_⟩
    refine ⟨_, rfl, a, ns, 0, rfl, hS, hl, by decide, ?_⟩
    have e0 : (0 : Int).toNat = 0 := rfl
    rw [e0]
    generalize cell ns 0 = c at q ⊢
    have b0 := Int.emod_nonneg c (b := 2) (by decide)
    have b1 := Int.emod_lt_of_pos c (b := 2) (by decide)
    have b2 := Int.emod_nonneg (c / 2) (b := 2) (by decide)
    have b3 := Int.emod_lt_of_pos (c / 2) (b := 2) (by decide)
    refine ⟨_, rfl, rfl, _, rfl, ite2 (fun cw => ?_) (fun cw => ?_)⟩
    · have ew : w = 0 := by
        have := V.int.inj (of_decide_eq_true cw)
        omega
      subst ew
      have eW : refuseWorst (2 + c % 2) (3 + c / 2 % 2) = none := by
        have h1 : c % 2 = 0 ∨ c % 2 = 1 := by omega
        have h2 : c / 2 % 2 = 0 ∨ c / 2 % 2 = 1 := by omega
        rcases h1 with h1 | h1 <;> rcases h2 with h2 | h2 <;> rw [h1, h2] <;> decide +kernel
      refine ⟨_, rfl, _, _, rfl, rfl, (by show (0 : Int) < 2; decide), _, _, rfl, rfl, _, rfl, _, _, rfl, rfl, ⟨by decide, by decide⟩, _, _, rfl, rfl, (by show (0 : Int) < 2; decide), _, _, rfl, rfl, 2 + c % 2, 3 + c / 2 % 2, rfl, TT, (fun j hj => nomatch (eW.symm.trans hj)), fun _ t r p x o H' sb top xN T' hon hp hx ho => ?_⟩
      have kn : hgt (3 + c / 2 % 2) t r ≤ 1000 := by
        obtain ⟨m, hm⟩ : ∃ m : Nat, 3 + c / 2 % 2 = (m : Int) := ⟨(3 + c / 2 % 2).toNat, by omega⟩
        obtain ⟨n, hn⟩ : ∃ n : Nat, (2 + c % 2).toNat = n := ⟨_, rfl⟩
        rw [hm, hn] at sb top
        rw [hm]
        have tm : ((m : Int)).toNat = m := rfl
        rw [tm] at sb top
        have lt := ringT_few (n := n) (m := m) (by omega) (by omega) (by omega) (by omega) top.mem (known_hgt (all_known (by omega) (by omega) (by omega) (by omega) (by omega) sb top.mem))
        have l2 : m ^ n ≤ 4 ^ 3 := Nat.le_trans (Nat.pow_le_pow_left (by omega) n) (Nat.pow_le_pow_right (by omega) (by omega))
        have l3 : (4 : Nat) ^ 3 = 64 := rfl
        omega
      refine q r _ p x o H' ?_ xN T' hon hp hx ho (by rw [orderT_len]; exact kn)
      unfold SmallIs
      rw [if_pos rfl]
      exact ⟨t, sb, top, rfl⟩
    have ew : ¬ w = 0 := fun z => cw (decide_eq_true (by rw [z]; rfl))
    have eS : refuseSize (3 + c % 2) (2 + c / 2 % 2) = none := by
      have h1 : c % 2 = 0 ∨ c % 2 = 1 := by omega
      have h2 : c / 2 % 2 = 0 ∨ c / 2 % 2 = 1 := by omega
      rcases h1 with h1 | h1 <;> rcases h2 with h2 | h2 <;> rw [h1, h2] <;> decide +kernel
    refine ⟨_, rfl, _, _, rfl, rfl, (by show (0 : Int) < 2; decide), _, _, rfl, rfl, _, rfl, _, _, rfl, rfl, ⟨by decide, by decide⟩, _, _, rfl, rfl, (by show (0 : Int) < 2; decide), _, _, rfl, rfl, 3 + c % 2, 2 + c / 2 % 2, rfl, (fun j hj => nomatch (eS.symm.trans hj)), fun _ => ⟨fun t sb all H' s' => ?_, fun t r p x o i j H' sb rm rk s' hj hi nd fu ej hon hp hx ho => ?_⟩⟩
    · refine ⟨_, rfl, rfl, _, rfl, iteT' (decide_eq_true rfl) ?_⟩
      refine ⟨Nat.zero_le _, fun x hx => ⟨Nat.zero_le _, fun o ho => ⟨small63 (by show 2 ≤ 1000; decide), fun p hp => ?_⟩⟩⟩
      have s1 := s'.trans (same_new (o := HO.tup []) hx)
      have s2 := s1.trans (same_new (o := HO.lst []) ho)
      have s3 := s2.trans (same_new (o := HO.tup [V.ref x, V.ref o]) hp)
      refine q [] [] p x o _ ?_ (HL.same_extN s3) (HL.tabs_same TT s3) (fun y hy => ?_) upd_same ((same_new hp) _ _ ((same_new ho) _ _ upd_same)) ((same_new hp) _ _ upd_same) (Nat.zero_le _)
      · unfold SmallIs
        rw [if_neg ew]
        exact .inl ⟨t, sb, all, rfl, rfl⟩
      · have := s1 _ _ hy
        rw [ho] at this
        cases this
    · refine ⟨_, rfl, rfl, _, rfl, iteF' (decide_eq_false (fun z => nomatch z)) ?_⟩
      refine ⟨_, rfl, q _ _ p x o H' ?_ (HL.same_extN s') (HL.tabs_same TT s') (fun y hy => ?_) hp hx ho ?_⟩
      · unfold SmallIs
        rw [if_neg ew]
        exact .inr ⟨t, r, i, j, sb, fu, nd, hj, ej, rfl, rfl⟩
      · rw [hon] at hy
        cases hy
      · rw [List.length_drop, orderW_len]
        omega

/-! ### law -/
def sp_law (K : PySem.W.Frag) (P : Addr) : Sp := fun vs H Q _ => ∃ (a : Addr) (ns : List Int), vs = [.ref a] ∧ SqL K H a (ns.map V.int) ∧ ns.length ≤ 63 ∧ LamX.Tabs (lamT "worst" P) H ∧ ∀ H', Q (.bl true) H'
theorem law_end {K : PySem.W.Frag} {H : Hp} {a P : Addr} {ns : List Int} (hl : ns.length ≤ 63) (hS : SqL K H a (ns.map V.int)) (hP : H P = some (.tbl #[])) : sp_law K P [.ref a] H (fun v _ => v = .bl true) fun _ _ _ => False := ⟨a, ns, rfl, hS, hl, HL.one1 (LamX.TabS.nil hP), fun _ => rfl⟩
theorem ok_law (T : Top K mg base) : FnOk P w K mg base CX0 8 T.f_law T.d_law ["_law_script"] (sp_law K T.P_worst) := by
  refine T.F_law.ok sc_law (fun vs H Q E h => ?_) (fun cdv A outer s H vs Q E hr h => ?_)
  · obtain ⟨a, ns, rfl, hS, hl, TT, q⟩ := h
    rfl
  · obtain ⟨a, ns, rfl, hS, hl, TT, q⟩ := h
    refine ⟨_, (pss_cons (ps_set (i := 1) sc_law.nd rfl (by first | exact Or.inl rfl | exact Or.inr rfl) (pe_call (ok__law_size T) (hr.mono (by decide)) (by rfl) T.g__law_size T.F__law_size.kp T.b__law_size .nil pass0 (pa_cons (pv 0) pa_nil)))
      (pss_cons (ps_set (i := 2) sc_law.nd rfl (by first | exact Or.inl rfl | exact Or.inr rfl) (pe_callB (call_max2 rfl) (by rfl) T.n_max (by decide +kernel) (pa_cons (pv 1) (pa_cons (pe_call (ok__law_many T) (hr.mono (by decide)) (by rfl) T.g__law_many T.F__law_many.kp T.b__law_many .nil pass0 (pa_cons (pv 0) (pa_cons (pv 1) pa_nil))) pa_nil))))
      (pss_cons (ps_set (i := 3) sc_law.nd rfl (by first | exact Or.inl rfl | exact Or.inr rfl) (pe_call (ok__law_ring T) (hr.mono (by decide)) (by rfl) T.g__law_ring T.F__law_ring.kp T.b__law_ring .nil pass0 (pa_cons (pv 0) (pa_cons (pv 1) (pa_cons (pv 2) pa_nil)))))
      (pss_cons (ps_set (i := 4) sc_law.nd rfl (by first | exact Or.inl rfl | exact Or.inr rfl) (pe_call (ok__law_order T) (hr.mono (by decide)) (by rfl) T.g__law_order T.F__law_order.kp T.b__law_order .nil pass0 (pa_cons (pv 3) (pa_cons (pv 2) (pa_cons (pv 0) pa_nil)))))
      (pss_cons (ps_setLc (i := 5) (own := [("_law_cell", 6)]) (g := gName 6) (tt := tYes) (by rfl) sc_law.nd rfl rfl (sw_true rfl rfl rfl (by decide +kernel)) (pi_list (pe_slice (r := rSlL K) sl_list (pv 0) po_none (po_some pe_int))) (blkOk_by (N := ["_law_script", "_law_size_here", "_law_many_here", "_law_ring_here", "_law_order_here", "_law_numbers", "_law_cell", "_law_first_order", "_law_first_numbers", "_law_way", "_law_told", "_law_kept", "_law_pair", "_law_later"]) (sc := defScope s_law) (by decide +kernel)) (fun _ _ _ _ _ => pg_name (i := 6) sc_law.nd rfl (Or.inl rfl)) (fun _ _ _ _ _ => pts_nil) (fun _ _ _ _ _ => (pe_callB call_abs (by rfl) T.n_abs (by decide +kernel) (pa_cons (pv 6) pa_nil))))
      (pss_cons (ps_set (i := 7) sc_law.nd rfl (by first | exact Or.inl rfl | exact Or.inr rfl) (pe_callTy (r := HL.rListOf K) HL.call_listK (by rfl) T.n_list (by decide +kernel) (pa_cons (pv 4) pa_nil)))
      (pss_cons (ps_set (i := 8) sc_law.nd rfl (by first | exact Or.inl rfl | exact Or.inr rfl) (pe_callTy (r := HL.rListOf K) HL.call_listK (by rfl) T.n_list (by decide +kernel) (pa_cons (pv 5) pa_nil)))
      (pss_cons (ps_for PassesOwn.never rfl (pi_range1 (by rfl) T.n_range (pa_cons pe_int pa_nil)) (pg_name (i := 9) sc_law.nd rfl (by first | exact Or.inl rfl | exact Or.inr rfl))
      (pss_cons (ps_set (i := 10) sc_law.nd rfl (by first | exact Or.inl rfl | exact Or.inr rfl) (pe_call (ok__law_ask T) (hr.mono (by decide)) (by rfl) T.g__law_ask T.F__law_ask.kp T.b__law_ask .nil pass0 (pa_cons (pv 9) (pa_cons (pv 3) (pa_cons (pv 2) (pa_cons (pv 4) (pa_cons (pv 5) pa_nil)))))))
      (pss_cons (ps_set (i := 11) sc_law.nd rfl (by first | exact Or.inl rfl | exact Or.inr rfl) (pe_callTy (r := HL.rListOf K) HL.call_listK (by rfl) T.n_list (by decide +kernel) (pa_cons (pv 10) pa_nil)))
      (pss_cons (ps_expr (pe_bm PySem.F.plainAttrs_list PySem.F.slot_list_append PySem.F.type_list_append mt_append (pv 10) (pa_cons (pv 9) pa_nil)))
      (pss_cons (ps_if (pt_cmpR (r := rNeD K) (op_neD hr.units) (pe_call (ok__law_ask T) (hr.mono (by decide)) (by rfl) T.g__law_ask T.F__law_ask.kp T.b__law_ask .nil pass0 (pa_cons (pv 9) (pa_cons (pv 3) (pa_cons (pv 2) (pa_cons (pv 4) (pa_cons (pv 5) pa_nil)))))) (pv 11) (nomark _))
      (pss_one (ps_ret pe_bl))
      pss_nil)
      (pss_cons (ps_expr (pe_bm0 PySem.F.plainAttrs_list PySem.F.slot_list_clear PySem.F.type_list_clear mt_clear (pv 10)))
      (pss_one (ps_if (PW.pt (pw_or (pt_cmpR (r := rNeD K) (op_neD hr.units) (pe_call (ok__law_ask T) (hr.mono (by decide)) (by rfl) T.g__law_ask T.F__law_ask.kp T.b__law_ask .nil pass0 (pa_cons (pv 9) (pa_cons (pv 3) (pa_cons (pv 2) (pa_cons (pv 4) (pa_cons (pv 5) pa_nil)))))) (pv 11) (nomark _)) (pw_or1 (pt_cmpR (r := rNeD K) (op_neD hr.units) (pv 10) (pe_lst pa_nil) (nomark _)))))
      (pss_one (ps_ret pe_bl))
      pss_nil))))))))
      (pss_cons (ps_for PassesOwn.never rfl (pi_range1 (by rfl) T.n_range (pa_cons pe_int pa_nil)) (pg_name (i := 9) sc_law.nd rfl (by first | exact Or.inl rfl | exact Or.inr rfl))
      (pss_cons (ps_set (i := 12) sc_law.nd rfl (by first | exact Or.inl rfl | exact Or.inr rfl) (pe_call (ok__law_small T) (hr.mono (by decide)) (by rfl) T.g__law_small T.F__law_small.kp T.b__law_small .nil pass0 (pa_cons (pv 9) (pa_cons (pv 0) pa_nil))))
      (pss_cons (ps_set (i := 11) sc_law.nd rfl (by first | exact Or.inl rfl | exact Or.inr rfl) (pe_callTy (r := HL.rListOf K) HL.call_listK (by rfl) T.n_list (by decide +kernel) (pa_cons (pe_ix (r := rIxT K) ix_tup (pv 12) pe_int (fun _ _ => rfl)) pa_nil)))
      (pss_cons (ps_expr (pe_bm PySem.F.plainAttrs_list PySem.F.slot_list_append PySem.F.type_list_append mt_append (pe_ix (r := rIxT K) ix_tup (pv 12) pe_int (fun _ _ => rfl)) (pa_cons pe_int pa_nil)))
      (pss_cons (ps_set (i := 13) sc_law.nd rfl (by first | exact Or.inl rfl | exact Or.inr rfl) (pe_call (ok__law_small T) (hr.mono (by decide)) (by rfl) T.g__law_small T.F__law_small.kp T.b__law_small .nil pass0 (pa_cons (pv 9) (pa_cons (pv 0) pa_nil))))
      (pss_one (ps_if (PW.pt (pw_or (pt_cmpR (r := rNeD K) (op_neD hr.units) (pe_ix (r := rIxT K) ix_tup (pv 13) pe_int (fun _ _ => rfl)) (pe_ix (r := rIxT K) ix_tup (pv 12) pe_int (fun _ _ => rfl)) (nomark _)) (pw_or1 (pt_cmpR (r := rNeD K) (op_neD hr.units) (pe_ix (r := rIxT K) ix_tup (pv 13) pe_int (fun _ _ => rfl)) (pv 11) (nomark _)))))
      (pss_one (ps_ret pe_bl))
      pss_nil)))))))
      (pss_one (ps_ret (pe_and (pe_cmpR (r := rEqD K) (op_eqD hr.units) (pv 4) (pv 7) (nomark _)) (pe_one (pe_cmpR (r := rEqD K) (op_eqD hr.units) (pv 5) (pv 8) (nomark _))))))))))))))), ?_⟩
    have sb := size_b ns
    have mb0 := many_b ns (size ns) sb.1 sb.2
    have mb := mx_b sb.1 sb.2 mb0.1 mb0.2
    have g := ring_good ns sb.1 sb.2 mb.2.1 mb.2.2
    have gl := g.len
    refine ⟨_, rfl, a, ns, rfl, hS, hl, ?_⟩
    refine ⟨_, rfl, _, rfl, _, rfl, a, ns, size ns, rfl, hS, hl, fun H1 s1 => ⟨_, _, rfl, ?_⟩⟩
    have hS1 := s1.seq hS
    generalize hm0 : (if many ns (size ns) > size ns then many ns (size ns) else size ns) = m at g gl mb ⊢
    refine ⟨_, rfl, _, rfl, _, rfl, a, ns, size ns, m, rfl, hS1, hl, sb.1, sb.2, mb.2.1, mb.2.2, fun p H2 s2 hR => ?_⟩
    have hS2 := s2.seq hS1
    generalize hr0 : ring ns (size ns) m = r at g gl hR
    generalize hn0 : size ns = n at g gl sb mb hR ⊢
    have hm : ((n.toNat : Nat) : Int) ≤ m := by omega
    have n12 := g.n12
    have n2 := g.n2
    
    
    have TT2 := HL.tabs_same TT (s1.trans s2)
    refine ⟨_, rfl, _, rfl, _, rfl, a, ns, p, r, m, n, rfl, hS2, hl, hR, g, hm, sb.1, sb.2, fun o ks H3 lg sk h1 kl L3 => ?_⟩
    have hS3 := L3.1.seq hS2
    have hR3 := seqT_same L3.1 hR
    have TT3 := HL.tabs_same TT2 L3.1
    have o3 := L3.2.2
    refine ⟨_, rfl, 5, rfl, a, _, rfl, hS3, fun u hu => ?_⟩
    have e5 : cutV (ns.map V.int) none (some 5) = (ns.take 5).map V.int := by
      have := cut_to (ns.map V.int) 5
      rw [show ((5 : Nat) : Int) = 5 from rfl] at this
      rw [this, List.map_take]
    rw [e5]
    have sU := same_new (o := HO.lst ((ns.take 5).map V.int)) hu
    have hU := upd_same (H := H3) (a := u) (o := HO.lst ((ns.take 5).map V.int))
    generalize upd H3 u (.lst ((ns.take 5).map V.int)) = HU at sU hU
    refine ⟨u, rfl, ⟨_, SqL.of hU⟩, fun wd hw => lc_list (K := K) (a := u) (xs := (ns.take 5).map V.int)
      (fun i H' => ListAt HU wd ((((ns.take 5).take i).map fun z : Int => if z < 0 then -z else z).map V.int) H') (ListAt.mk0 (Same.refl HU) hw) (fun i H' _ L => SqL.of (L.1 _ _ hU)) (fun i v H' hv L => ?_) fun H4 L4 => ?_⟩
    · obtain ⟨z, hz, rfl⟩ := ints_get hv
      have l5 : (ns.take 5).length ≤ 5 := by rw [List.length_take]; omega
      refine ⟨rfl, tyes ?_⟩
      refine ⟨_, rfl, z, rfl, L.push (Same.refl H') ?_ ?_⟩
      · rw [List.length_map, List.length_map, List.length_take]
        omega
      · rw [take_snoc hz, List.map_append, List.map_append]
        rfl
    rw [List.length_map, List.take_length] at L4
    have w4 := L4.2.2
    generalize (ns.take 5).map (fun z : Int => if z < 0 then -z else z) = zs at L4 w4
    have s34 := sU.trans L4.1
    have o4 := s34 _ _ o3
    refine ⟨_, rfl, o, _, rfl, .inl (SqL.of o4), fun f1 hf1 => ?_⟩
    have sA := same_new (o := HO.lst (ordV ks)) hf1
    have hf1' := upd_same (H := H4) (a := f1) (o := HO.lst (ordV ks))
    have oA := sA _ _ o4
    have wA := sA _ _ w4
    generalize upd H4 f1 (.lst (ordV ks)) = HA at sA hf1' oA wA
    refine ⟨_, rfl, wd, _, rfl, .inl (SqL.of wA), fun f2 hf2 => ?_⟩
    have sB := same_new (o := HO.lst (zs.map V.int)) hf2
    have hf2' := upd_same (H := HA) (a := f2) (o := HO.lst (zs.map V.int))
    have oB := sB _ _ oA
    have wB := sB _ _ wA
    have f1B := sB _ _ hf1'
    have s3B := (s34.trans sA).trans sB
    have hSB := s3B.seq hS3
    have hRB := seqT_same s3B hR3
    have TB := HL.tabs_same TT3 s3B
    generalize upd HA f2 (.lst (zs.map V.int)) = HB at sB hf2' oB wB f1B s3B hSB hRB TB
    refine ⟨7, rfl, by decide, by decide, for_range (lo := 0) (n := 7)
      (fun i σ H' => ∃ (v9 v10 v11 : Option V), σ = [some (.ref a), some (.int n), some (.int m), some (.ref p), some (.ref o), some (.ref wd), none, some (.ref f1), some (.ref f2), v9, v10, v11, none, none] ∧ Same HB H')
      ⟨none, none, none, rfl, Same.refl HB⟩ ?_ ?_⟩
    · rintro i σ H5 hi ⟨v9, v10, v11, rfl, s5⟩
      have ei : (0 : Int) + (i : Int) = (i : Int) := by omega
      rw [ei]
      have hmn : ((n.toNat : Nat) : Int) ≤ m := hm
      refine ⟨_, rfl, _, rfl, _, rfl, _, rfl, _, rfl, i, p, r, m, n.toNat, o, ks, wd, zs, rfl, hi, seqT_same s5 hRB, g, hmn, SqL.of (s5 _ _ oB), kl, lg, h1, SqL.of (s5 _ _ wB), fun d xs pt H6 ad s6 n6 h6 tl6 xl => ?_⟩
      refine ⟨_, rfl, pt, xs, rfl, .inl (SqL.of h6), fun k hk => ?_⟩
      have s7 := same_new (o := HO.lst xs) hk
      have k7 := upd_same (H := H6) (a := k) (o := HO.lst xs)
      have pt7 := s7 _ _ h6
      have npk : pt ≠ k := ne_of_none h6 hk
      have tl7 := tl6.on s7
      generalize upd H6 k (.lst xs) = H7 at s7 k7 pt7 tl7
      have hBp : HB pt = none := s5.free n6
      have s57 := (s5.trans s6).trans s7
      refine ⟨_, rfl, .inl ⟨rfl, _, SqL.of pt7⟩, _, rfl, pt, _, _, rfl, rfl, pt7, by rw [sizeLine_eq]; omega, ?_⟩
      have s8 : Same HB (upd H7 pt (.lst (xs ++ [V.int (i : Int)]))) := fun b x e => (upd_ne (ne_of_none e hBp)).trans (s57 b x e)
      have k8 := (upd_ne (H := H7) (o := HO.lst (xs ++ [V.int (i : Int)])) (Ne.symm npk)).trans k7
      have tl8 := Told.wr (zs := xs ++ [V.int (i : Int)]) pt7 tl7
      have pt8 := upd_same (H := H7) (a := pt) (o := HO.lst (xs ++ [V.int (i : Int)]))
      generalize upd H7 pt (.lst (xs ++ [V.int (i : Int)])) = H8 at s8 k8 tl8 pt8
      refine ⟨_, rfl, _, rfl, _, rfl, _, rfl, _, rfl, i, p, r, m, n.toNat, o, ks, wd, zs, rfl, hi, seqT_same s8 hRB, g, hmn, SqL.of (s8 _ _ oB), kl, lg, h1, SqL.of (s8 _ _ wB), fun d2 xs2 pt2 H9 ad2 s9 n9 h9 tl9 xl2 => ?_⟩
      have ed : d2 = d := askIs_one ad2 ad
      subst ed
      have k9 := s9 _ _ k8
      have tlk9 := tl8.on s9
      refine ⟨_, rfl, _, _, .lst (SqL.of h9) tl9.dp, .lst (SqL.of k9) tlk9.dp, dataT_shaped d2, dataT_shaped d2, _, rfl, ?_⟩
      rw [dataT_same d2]
      refine iteF ?_
      have pt9 := s9 _ _ pt8
      have s59 := s8.trans s9
      refine ⟨_, rfl, .inl ⟨rfl, _, SqL.of pt9⟩, pt, _, rfl, rfl, pt9, ?_⟩
      have sC : Same HB (upd H9 pt (.lst [])) := fun b x e => (upd_ne (ne_of_none e hBp)).trans (s59 b x e)
      have kC := (upd_ne (H := H9) (o := HO.lst []) (Ne.symm npk)).trans k9
      have tlC := Told.wr (zs := []) pt9 tlk9
      have ptC := upd_same (H := H9) (a := pt) (o := HO.lst [])
      generalize upd H9 pt (.lst []) = HC at sC kC tlC ptC
      refine ⟨_, rfl, _, rfl, _, rfl, _, rfl, _, rfl, i, p, r, m, n.toNat, o, ks, wd, zs, rfl, hi, seqT_same sC hRB, g, hmn, SqL.of (sC _ _ oB), kl, lg, h1, SqL.of (sC _ _ wB), fun d3 xs3 pt3 HD ad3 sD nD hD tlD xl3 => ?_⟩
      have ed : d3 = d2 := askIs_one ad3 ad
      subst ed
      refine ⟨_, rfl, _, _, .lst (SqL.of hD) tlD.dp, .lst (SqL.of (sD _ _ kC)) (tlC.on sD).dp, dataT_shaped d3, dataT_shaped d3, _, rfl, ?_⟩
      rw [dataT_same d3]
      refine iteF ?_
      refine ⟨_, rfl, Nat.zero_le _, fun e he => ?_⟩
      have sE := same_new (o := HO.lst []) he
      refine ⟨_, _, dp_lst (xs := []) (SqL.of (sE _ _ (sD _ _ ptC))), dp_lst (xs := []) (SqL.of upd_same), shaped_lst _, shaped_lst _, _, rfl, ?_⟩
      have eq2 : PyData.eqv (.list (([] : List Int).map PyData.int)) (.list (([] : List Int).map PyData.int)) = true := rfl
      rw [eq2]
      refine iteF ?_
      exact ⟨_, _, _, rfl, (sC.trans sD).trans sE⟩
    rintro σ H5 ⟨v9, v10, v11, rfl, s5⟩
    have o5 := s5 _ _ oB
    have w5 := s5 _ _ wB
    have f15 := s5 _ _ f1B
    have f25 := s5 _ _ hf2'
    have hS5 := s5.seq hSB
    have T5 := HL.tabs_same TB s5
    refine ⟨2, rfl, by decide, by decide, for_range (lo := 0) (n := 2)
      (fun i σ H' => ∃ (v9 v10 v11 v12 v13 : Option V), σ = [some (.ref a), some (.int n), some (.int m), some (.ref p), some (.ref o), some (.ref wd), none, some (.ref f1), some (.ref f2), v9, v10, v11, v12, v13] ∧ LamX.ExtN H5 H' ∧ LamX.Tabs (lamT "worst" T.P_worst) H')
      ⟨_, _, _, _, _, rfl, LamX.ExtN.refl H5, T5⟩ ?_ ?_⟩
    · rintro i σ H6 hi ⟨v9, v10, v11, v12, v13, rfl, x6, T6⟩
      have ei : (0 : Int) + (i : Int) = (i : Int) := by omega
      rw [ei]
      refine ⟨_, rfl, _, rfl, i, a, ns, rfl, hi, seqN x6 hS5, hl, T6, fun q1 ks1 p1 c1 o1 H7 sm x7 T7 hon hp7 hc7 ho7 kl7 => ?_⟩
      refine ⟨_, rfl, p1, _, 1, .ref o1, rfl, rfl, SqT.of hp7, rfl, o1, _, rfl, .inl (SqL.of ho7), fun k hk => ?_⟩
      have s8 := same_new (o := HO.lst (ordV ks1)) hk
      have k8 := upd_same (H := H7) (a := k) (o := HO.lst (ordV ks1))
      have nko : o1 ≠ k := ne_of_none ho7 hk
      have p8 := s8 _ _ hp7
      have c8 := s8 _ _ hc7
      have o8 := s8 _ _ ho7
      have x8 := x7.trans (HL.same_extN s8)
      have T8 := HL.tabs_same T7 s8
      generalize upd H7 k (.lst (ordV ks1)) = H8 at s8 k8 p8 c8 o8 x8 T8
      refine ⟨_, rfl, p1, _, 1, .ref o1, rfl, rfl, SqT.of p8, rfl, .inl ⟨rfl, _, SqL.of o8⟩, o1, _, _, rfl, rfl, o8, by rw [ordV_len, sizeLine_eq]; omega, ?_⟩
      have x9 : LamX.ExtN H6 (upd H8 o1 (.lst (ordV ks1 ++ [V.int 0]))) := extN_put x8 hon
      have T9 : LamX.Tabs (lamT "worst" T.P_worst) (upd H8 o1 (.lst (ordV ks1 ++ [V.int 0]))) := HL.tabs_wr T8 o8 (fun _ z => nomatch z) (fun _ _ z => nomatch z)
      have k9 := (upd_ne (H := H8) (o := HO.lst (ordV ks1 ++ [V.int 0])) (Ne.symm nko)).trans k8
      have p9 := (upd_ne (H := H8) (o := HO.lst (ordV ks1 ++ [V.int 0])) (ne_of p8 o8 (fun z => nomatch z))).trans p8
      have c9 := (upd_ne (H := H8) (o := HO.lst (ordV ks1 ++ [V.int 0])) (ne_of c8 o8 (fun z => nomatch z))).trans c8
      generalize upd H8 o1 (.lst (ordV ks1 ++ [V.int 0])) = H9 at x9 T9 k9 p9 c9
      refine ⟨_, rfl, _, rfl, i, a, ns, rfl, hi, seqN (x6.trans x9) hS5, hl, T9, fun q2 ks2 p2 c2 o2 HA2 sm2 xA TA honA hpA hcA hoA klA => ?_⟩
      obtain ⟨eq12, ek12⟩ := small_one sm2 sm
      subst eq12 ek12
      have kA := xA _ _ k9 (fun _ z => nomatch z)
      have pA := xA _ _ p9 (fun _ z => nomatch z)
      have cA := xA _ _ c9 (fun _ z => nomatch z)
      refine ⟨_, rfl, p2, _, 0, .ref c2, rfl, rfl, SqT.of hpA, rfl, _, rfl, p1, _, 0, .ref c1, rfl, rfl, SqT.of pA, rfl, ?_⟩
      refine ⟨.tuple (q2.map PyData.int), .tuple (q2.map PyData.int), .tup (SqT.of hcA) (dpAll_ints q2), .tup (SqT.of cA) (dpAll_ints q2), shaped_tup q2, shaped_tup q2, _, rfl, ?_⟩
      have eqx : PyData.eqv (.tuple (q2.map PyData.int)) (.tuple (q2.map PyData.int)) = true := (eqv_ints q2 q2).trans (decide_eq_true rfl)
      rw [eqx]
      refine iteF ?_
      refine ⟨_, rfl, p2, _, 1, .ref o2, rfl, rfl, SqT.of hpA, rfl, _, rfl, ?_⟩
      have toI : ∀ {b : Addr}, HA2 b = some (.lst (ordV ks2)) → SqL K HA2 b ((castL ks2).map V.int) := fun {b} h => by
        have := SqL.of (K := K) h
        rw [ordV_ints] at this
        exact this
      refine ⟨_, _, dp_lst (xs := castL ks2) (toI hoA), dp_lst (xs := castL ks2) (toI kA), shaped_lst _, shaped_lst _, _, rfl, ?_⟩
      have eqk : PyData.eqv (.list ((castL ks2).map PyData.int)) (.list ((castL ks2).map PyData.int)) = true := (eqv_ints _ _).trans (decide_eq_true rfl)
      rw [eqk]
      refine iteF ?_
      exact ⟨_, _, _, _, _, rfl, (x6.trans x9).trans xA, TA⟩
    rintro σ H6 ⟨v9, v10, v11, v12, v13, rfl, x6, T6⟩
    have o6 := x6 _ _ o5 (fun _ z => nomatch z)
    have w6 := x6 _ _ w5 (fun _ z => nomatch z)
    have f16 := x6 _ _ f15 (fun _ z => nomatch z)
    have f26 := x6 _ _ f25 (fun _ z => nomatch z)
    have toI : ∀ {b : Addr}, H6 b = some (.lst (ordV ks)) → SqL K H6 b ((castL ks).map V.int) := fun {b} h => by
      have := SqL.of (K := K) h
      rw [ordV_ints] at this
      exact this
    refine ⟨_, rfl, _, rfl, ?_⟩
    refine ⟨_, _, dp_lst (xs := castL ks) (toI o6), dp_lst (xs := castL ks) (toI f16), shaped_lst _, shaped_lst _, ?_⟩
    have eqk : PyData.eqv (.list ((castL ks).map PyData.int)) (.list ((castL ks).map PyData.int)) = true := (eqv_ints _ _).trans (decide_eq_true rfl)
    rw [eqk]
    refine ⟨true, rfl, ?_⟩
    rw [if_pos rfl]
    refine ⟨_, rfl, _, rfl, ?_⟩
    refine ⟨_, _, dp_lst (xs := zs) (SqL.of w6), dp_lst (xs := zs) (SqL.of f26), shaped_lst _, shaped_lst _, ?_⟩
    have eqz : PyData.eqv (.list (zs.map PyData.int)) (.list (zs.map PyData.int)) = true := (eqv_ints _ _).trans (decide_eq_true rfl)
    rw [eqz]
    exact q _

end
/-! ### what the top has written -/
theorem all_mk {l : PySem.W.OpenLaw} {w : World} {K : PySem.W.Frag} {h : Heap} {mg : Str → Option Value} {fa : Addr} (X : K.In h) (G : h.Ns mainGlobals mg) (hfa : mg "law" = some (.ref fa))
    {P_worst : Addr} (hP_worst : h.get? P_worst = some { cls := .none, data := .fields #[] })
    {f_check_many : Addr} {od_check_many an_check_many : Option Addr} {sl_check_many : Array (Option Value)} {oc_check_many kV_check_many dc_check_many pm_check_many cd_check_many ct_check_many : Value}
    {f_check_machines : Addr} {od_check_machines an_check_machines : Option Addr} {sl_check_machines : Array (Option Value)} {oc_check_machines kV_check_machines dc_check_machines pm_check_machines cd_check_machines ct_check_machines : Value}
    {f_check_ring : Addr} {od_check_ring an_check_ring : Option Addr} {sl_check_ring : Array (Option Value)} {oc_check_ring kV_check_ring dc_check_ring pm_check_ring cd_check_ring ct_check_ring : Value}
    {f_check_machine : Addr} {od_check_machine an_check_machine : Option Addr} {sl_check_machine : Array (Option Value)} {oc_check_machine kV_check_machine dc_check_machine pm_check_machine cd_check_machine ct_check_machine : Value}
    {f_may_step : Addr} {od_may_step an_may_step : Option Addr} {sl_may_step : Array (Option Value)} {oc_may_step kV_may_step dc_may_step pm_may_step cd_may_step ct_may_step : Value}
    {f_taken : Addr} {od_taken an_taken : Option Addr} {sl_taken : Array (Option Value)} {oc_taken kV_taken dc_taken pm_taken cd_taken ct_taken : Value}
    {f_after : Addr} {od_after an_after : Option Addr} {sl_after : Array (Option Value)} {oc_after kV_after dc_after pm_after cd_after ct_after : Value}
    {f_able : Addr} {od_able an_able : Option Addr} {sl_able : Array (Option Value)} {oc_able kV_able dc_able pm_able cd_able ct_able : Value}
    {f_stepped : Addr} {od_stepped an_stepped : Option Addr} {sl_stepped : Array (Option Value)} {oc_stepped kV_stepped dc_stepped pm_stepped cd_stepped ct_stepped : Value}
    {f_gone : Addr} {od_gone an_gone : Option Addr} {sl_gone : Array (Option Value)} {oc_gone kV_gone dc_gone pm_gone cd_gone ct_gone : Value}
    {f_chosen : Addr} {od_chosen an_chosen : Option Addr} {sl_chosen : Array (Option Value)} {oc_chosen kV_chosen dc_chosen pm_chosen cd_chosen ct_chosen : Value}
    {f_drawn : Addr} {od_drawn an_drawn : Option Addr} {sl_drawn : Array (Option Value)} {oc_drawn kV_drawn dc_drawn pm_drawn cd_drawn ct_drawn : Value}
    {f_counted : Addr} {od_counted an_counted : Option Addr} {sl_counted : Array (Option Value)} {oc_counted kV_counted dc_counted pm_counted cd_counted ct_counted : Value}
    {f_traced : Addr} {od_traced an_traced : Option Addr} {sl_traced : Array (Option Value)} {oc_traced kV_traced dc_traced pm_traced cd_traced ct_traced : Value}
    {f_check_enough : Addr} {od_check_enough an_check_enough : Option Addr} {sl_check_enough : Array (Option Value)} {oc_check_enough kV_check_enough dc_check_enough pm_check_enough cd_check_enough ct_check_enough : Value}
    {f_healed : Addr} {od_healed an_healed : Option Addr} {sl_healed : Array (Option Value)} {oc_healed kV_healed dc_healed pm_healed cd_healed ct_healed : Value}
    {f_healing : Addr} {od_healing an_healing : Option Addr} {sl_healing : Array (Option Value)} {oc_healing kV_healing dc_healing pm_healing cd_healing ct_healing : Value}
    {f_most : Addr} {od_most an_most : Option Addr} {sl_most : Array (Option Value)} {oc_most kV_most dc_most pm_most cd_most ct_most : Value}
    {f_turns : Addr} {od_turns an_turns : Option Addr} {sl_turns : Array (Option Value)} {oc_turns kV_turns dc_turns pm_turns cd_turns ct_turns : Value}
    {f_check_few : Addr} {od_check_few an_check_few : Option Addr} {sl_check_few : Array (Option Value)} {oc_check_few kV_check_few dc_check_few pm_check_few cd_check_few ct_check_few : Value}
    {f_all_rings : Addr} {od_all_rings an_all_rings : Option Addr} {sl_all_rings : Array (Option Value)} {oc_all_rings kV_all_rings dc_all_rings pm_all_rings cd_all_rings ct_all_rings : Value}
    {f_ways_from : Addr} {od_ways_from an_ways_from : Option Addr} {sl_ways_from : Array (Option Value)} {oc_ways_from kV_ways_from dc_ways_from pm_ways_from cd_ways_from ct_ways_from : Value}
    {f_all_ways : Addr} {od_all_ways an_all_ways : Option Addr} {sl_all_ways : Array (Option Value)} {oc_all_ways kV_all_ways dc_all_ways pm_all_ways cd_all_ways ct_all_ways : Value}
    {f_all_in : Addr} {od_all_in an_all_in : Option Addr} {sl_all_in : Array (Option Value)} {oc_all_in kV_all_in dc_all_in pm_all_in cd_all_in ct_all_in : Value}
    {f_longest_steps : Addr} {od_longest_steps an_longest_steps : Option Addr} {sl_longest_steps : Array (Option Value)} {oc_longest_steps kV_longest_steps dc_longest_steps pm_longest_steps cd_longest_steps ct_longest_steps : Value}
    {f_longest_order : Addr} {od_longest_order an_longest_order : Option Addr} {sl_longest_order : Array (Option Value)} {oc_longest_order kV_longest_order dc_longest_order pm_longest_order cd_longest_order ct_longest_order : Value}
    {f_way_around : Addr} {od_way_around an_way_around : Option Addr} {sl_way_around : Array (Option Value)} {oc_way_around kV_way_around dc_way_around pm_way_around cd_way_around ct_way_around : Value}
    {f_worst : Addr} {od_worst an_worst : Option Addr} {sl_worst : Array (Option Value)} {oc_worst kV_worst dc_worst pm_worst ct_worst : Value} {cc_worst : Addr}
    {f_never : Addr} {od_never an_never : Option Addr} {sl_never : Array (Option Value)} {oc_never kV_never dc_never pm_never cd_never ct_never : Value}
    {f__law_cell_at : Addr} {od__law_cell_at an__law_cell_at : Option Addr} {sl__law_cell_at : Array (Option Value)} {oc__law_cell_at kV__law_cell_at dc__law_cell_at pm__law_cell_at cd__law_cell_at ct__law_cell_at : Value}
    {f__law_mixed : Addr} {od__law_mixed an__law_mixed : Option Addr} {sl__law_mixed : Array (Option Value)} {oc__law_mixed kV__law_mixed dc__law_mixed pm__law_mixed cd__law_mixed ct__law_mixed : Value}
    {f__law_size : Addr} {od__law_size an__law_size : Option Addr} {sl__law_size : Array (Option Value)} {oc__law_size kV__law_size dc__law_size pm__law_size cd__law_size ct__law_size : Value}
    {f__law_many : Addr} {od__law_many an__law_many : Option Addr} {sl__law_many : Array (Option Value)} {oc__law_many kV__law_many dc__law_many pm__law_many cd__law_many ct__law_many : Value}
    {f__law_ring : Addr} {od__law_ring an__law_ring : Option Addr} {sl__law_ring : Array (Option Value)} {oc__law_ring kV__law_ring dc__law_ring pm__law_ring cd__law_ring ct__law_ring : Value}
    {f__law_pick : Addr} {od__law_pick an__law_pick : Option Addr} {sl__law_pick : Array (Option Value)} {oc__law_pick kV__law_pick dc__law_pick pm__law_pick cd__law_pick ct__law_pick : Value}
    {f__law_order : Addr} {od__law_order an__law_order : Option Addr} {sl__law_order : Array (Option Value)} {oc__law_order kV__law_order dc__law_order pm__law_order cd__law_order ct__law_order : Value}
    {f__law_ask : Addr} {od__law_ask an__law_ask : Option Addr} {sl__law_ask : Array (Option Value)} {oc__law_ask kV__law_ask dc__law_ask pm__law_ask cd__law_ask ct__law_ask : Value}
    {f__law_small : Addr} {od__law_small an__law_small : Option Addr} {sl__law_small : Array (Option Value)} {oc__law_small kV__law_small dc__law_small pm__law_small cd__law_small ct__law_small : Value}
    {f_law : Addr} {od_law an_law : Option Addr} {sl_law : Array (Option Value)} {oc_law kV_law dc_law pm_law cd_law ct_law : Value}
    {t_FEWEST_MACHINES : Tok}
    {t_MOST_MACHINES : Tok}
    {t_FEWEST_NUMBERS : Tok}
    {t_MOST_NUMBERS : Tok}
    {t_MOST_RINGS : Tok}
    {c_HealError : Addr}
    {c_NoNumbers : Addr}
    {c_NoRing : Addr}
    {c_NoMachine : Addr}
    {c_NotNow : Addr}
    {c_NotHealed : Addr}
    {c_TooGreat : Addr}
    (a_check_many : PySem.W.nsIn K mainGlobals "check_many" = some (some (.ref f_check_many)))
    (l_check_many : K.lookup f_check_many = some ⟨oc_check_many, od_check_many, .func (PySem.W.fnOf "check_many" "check_many" (defArgs s_check_many) (defBody s_check_many) (defScope s_check_many) .none kV_check_many dc_check_many pm_check_many an_check_many cd_check_many ct_check_many), sl_check_many⟩)
    (e_check_many : PySem.W.codeIn K cd_check_many "check_many" = true)
    (k_check_many : PySem.W.keepIn K (.ref f_check_many) = true)
    (a_check_machines : PySem.W.nsIn K mainGlobals "check_machines" = some (some (.ref f_check_machines)))
    (l_check_machines : K.lookup f_check_machines = some ⟨oc_check_machines, od_check_machines, .func (PySem.W.fnOf "check_machines" "check_machines" (defArgs s_check_machines) (defBody s_check_machines) (defScope s_check_machines) .none kV_check_machines dc_check_machines pm_check_machines an_check_machines cd_check_machines ct_check_machines), sl_check_machines⟩)
    (e_check_machines : PySem.W.codeIn K cd_check_machines "check_machines" = true)
    (k_check_machines : PySem.W.keepIn K (.ref f_check_machines) = true)
    (a_check_ring : PySem.W.nsIn K mainGlobals "check_ring" = some (some (.ref f_check_ring)))
    (l_check_ring : K.lookup f_check_ring = some ⟨oc_check_ring, od_check_ring, .func (PySem.W.fnOf "check_ring" "check_ring" (defArgs s_check_ring) (defBody s_check_ring) (defScope s_check_ring) .none kV_check_ring dc_check_ring pm_check_ring an_check_ring cd_check_ring ct_check_ring), sl_check_ring⟩)
    (e_check_ring : PySem.W.codeIn K cd_check_ring "check_ring" = true)
    (k_check_ring : PySem.W.keepIn K (.ref f_check_ring) = true)
    (a_check_machine : PySem.W.nsIn K mainGlobals "check_machine" = some (some (.ref f_check_machine)))
    (l_check_machine : K.lookup f_check_machine = some ⟨oc_check_machine, od_check_machine, .func (PySem.W.fnOf "check_machine" "check_machine" (defArgs s_check_machine) (defBody s_check_machine) (defScope s_check_machine) .none kV_check_machine dc_check_machine pm_check_machine an_check_machine cd_check_machine ct_check_machine), sl_check_machine⟩)
    (e_check_machine : PySem.W.codeIn K cd_check_machine "check_machine" = true)
    (k_check_machine : PySem.W.keepIn K (.ref f_check_machine) = true)
    (a_may_step : PySem.W.nsIn K mainGlobals "may_step" = some (some (.ref f_may_step)))
    (l_may_step : K.lookup f_may_step = some ⟨oc_may_step, od_may_step, .func (PySem.W.fnOf "may_step" "may_step" (defArgs s_may_step) (defBody s_may_step) (defScope s_may_step) .none kV_may_step dc_may_step pm_may_step an_may_step cd_may_step ct_may_step), sl_may_step⟩)
    (e_may_step : PySem.W.codeIn K cd_may_step "may_step" = true)
    (k_may_step : PySem.W.keepIn K (.ref f_may_step) = true)
    (a_taken : PySem.W.nsIn K mainGlobals "taken" = some (some (.ref f_taken)))
    (l_taken : K.lookup f_taken = some ⟨oc_taken, od_taken, .func (PySem.W.fnOf "taken" "taken" (defArgs s_taken) (defBody s_taken) (defScope s_taken) .none kV_taken dc_taken pm_taken an_taken cd_taken ct_taken), sl_taken⟩)
    (e_taken : PySem.W.codeIn K cd_taken "taken" = true)
    (k_taken : PySem.W.keepIn K (.ref f_taken) = true)
    (a_after : PySem.W.nsIn K mainGlobals "after" = some (some (.ref f_after)))
    (l_after : K.lookup f_after = some ⟨oc_after, od_after, .func (PySem.W.fnOf "after" "after" (defArgs s_after) (defBody s_after) (defScope s_after) .none kV_after dc_after pm_after an_after cd_after ct_after), sl_after⟩)
    (e_after : PySem.W.codeIn K cd_after "after" = true)
    (k_after : PySem.W.keepIn K (.ref f_after) = true)
    (a_able : PySem.W.nsIn K mainGlobals "able" = some (some (.ref f_able)))
    (l_able : K.lookup f_able = some ⟨oc_able, od_able, .func (PySem.W.fnOf "able" "able" (defArgs s_able) (defBody s_able) (defScope s_able) .none kV_able dc_able pm_able an_able cd_able ct_able), sl_able⟩)
    (e_able : PySem.W.codeIn K cd_able "able" = true)
    (k_able : PySem.W.keepIn K (.ref f_able) = true)
    (a_stepped : PySem.W.nsIn K mainGlobals "stepped" = some (some (.ref f_stepped)))
    (l_stepped : K.lookup f_stepped = some ⟨oc_stepped, od_stepped, .func (PySem.W.fnOf "stepped" "stepped" (defArgs s_stepped) (defBody s_stepped) (defScope s_stepped) .none kV_stepped dc_stepped pm_stepped an_stepped cd_stepped ct_stepped), sl_stepped⟩)
    (e_stepped : PySem.W.codeIn K cd_stepped "stepped" = true)
    (k_stepped : PySem.W.keepIn K (.ref f_stepped) = true)
    (a_gone : PySem.W.nsIn K mainGlobals "gone" = some (some (.ref f_gone)))
    (l_gone : K.lookup f_gone = some ⟨oc_gone, od_gone, .func (PySem.W.fnOf "gone" "gone" (defArgs s_gone) (defBody s_gone) (defScope s_gone) .none kV_gone dc_gone pm_gone an_gone cd_gone ct_gone), sl_gone⟩)
    (e_gone : PySem.W.codeIn K cd_gone "gone" = true)
    (k_gone : PySem.W.keepIn K (.ref f_gone) = true)
    (a_chosen : PySem.W.nsIn K mainGlobals "chosen" = some (some (.ref f_chosen)))
    (l_chosen : K.lookup f_chosen = some ⟨oc_chosen, od_chosen, .func (PySem.W.fnOf "chosen" "chosen" (defArgs s_chosen) (defBody s_chosen) (defScope s_chosen) .none kV_chosen dc_chosen pm_chosen an_chosen cd_chosen ct_chosen), sl_chosen⟩)
    (e_chosen : PySem.W.codeIn K cd_chosen "chosen" = true)
    (k_chosen : PySem.W.keepIn K (.ref f_chosen) = true)
    (a_drawn : PySem.W.nsIn K mainGlobals "drawn" = some (some (.ref f_drawn)))
    (l_drawn : K.lookup f_drawn = some ⟨oc_drawn, od_drawn, .func (PySem.W.fnOf "drawn" "drawn" (defArgs s_drawn) (defBody s_drawn) (defScope s_drawn) .none kV_drawn dc_drawn pm_drawn an_drawn cd_drawn ct_drawn), sl_drawn⟩)
    (e_drawn : PySem.W.codeIn K cd_drawn "drawn" = true)
    (k_drawn : PySem.W.keepIn K (.ref f_drawn) = true)
    (a_counted : PySem.W.nsIn K mainGlobals "counted" = some (some (.ref f_counted)))
    (l_counted : K.lookup f_counted = some ⟨oc_counted, od_counted, .func (PySem.W.fnOf "counted" "counted" (defArgs s_counted) (defBody s_counted) (defScope s_counted) .none kV_counted dc_counted pm_counted an_counted cd_counted ct_counted), sl_counted⟩)
    (e_counted : PySem.W.codeIn K cd_counted "counted" = true)
    (k_counted : PySem.W.keepIn K (.ref f_counted) = true)
    (a_traced : PySem.W.nsIn K mainGlobals "traced" = some (some (.ref f_traced)))
    (l_traced : K.lookup f_traced = some ⟨oc_traced, od_traced, .func (PySem.W.fnOf "traced" "traced" (defArgs s_traced) (defBody s_traced) (defScope s_traced) .none kV_traced dc_traced pm_traced an_traced cd_traced ct_traced), sl_traced⟩)
    (e_traced : PySem.W.codeIn K cd_traced "traced" = true)
    (k_traced : PySem.W.keepIn K (.ref f_traced) = true)
    (a_check_enough : PySem.W.nsIn K mainGlobals "check_enough" = some (some (.ref f_check_enough)))
    (l_check_enough : K.lookup f_check_enough = some ⟨oc_check_enough, od_check_enough, .func (PySem.W.fnOf "check_enough" "check_enough" (defArgs s_check_enough) (defBody s_check_enough) (defScope s_check_enough) .none kV_check_enough dc_check_enough pm_check_enough an_check_enough cd_check_enough ct_check_enough), sl_check_enough⟩)
    (e_check_enough : PySem.W.codeIn K cd_check_enough "check_enough" = true)
    (k_check_enough : PySem.W.keepIn K (.ref f_check_enough) = true)
    (a_healed : PySem.W.nsIn K mainGlobals "healed" = some (some (.ref f_healed)))
    (l_healed : K.lookup f_healed = some ⟨oc_healed, od_healed, .func (PySem.W.fnOf "healed" "healed" (defArgs s_healed) (defBody s_healed) (defScope s_healed) .none kV_healed dc_healed pm_healed an_healed cd_healed ct_healed), sl_healed⟩)
    (e_healed : PySem.W.codeIn K cd_healed "healed" = true)
    (k_healed : PySem.W.keepIn K (.ref f_healed) = true)
    (a_healing : PySem.W.nsIn K mainGlobals "healing" = some (some (.ref f_healing)))
    (l_healing : K.lookup f_healing = some ⟨oc_healing, od_healing, .func (PySem.W.fnOf "healing" "healing" (defArgs s_healing) (defBody s_healing) (defScope s_healing) .none kV_healing dc_healing pm_healing an_healing cd_healing ct_healing), sl_healing⟩)
    (e_healing : PySem.W.codeIn K cd_healing "healing" = true)
    (k_healing : PySem.W.keepIn K (.ref f_healing) = true)
    (a_most : PySem.W.nsIn K mainGlobals "most" = some (some (.ref f_most)))
    (l_most : K.lookup f_most = some ⟨oc_most, od_most, .func (PySem.W.fnOf "most" "most" (defArgs s_most) (defBody s_most) (defScope s_most) .none kV_most dc_most pm_most an_most cd_most ct_most), sl_most⟩)
    (e_most : PySem.W.codeIn K cd_most "most" = true)
    (k_most : PySem.W.keepIn K (.ref f_most) = true)
    (a_turns : PySem.W.nsIn K mainGlobals "turns" = some (some (.ref f_turns)))
    (l_turns : K.lookup f_turns = some ⟨oc_turns, od_turns, .func (PySem.W.fnOf "turns" "turns" (defArgs s_turns) (defBody s_turns) (defScope s_turns) .none kV_turns dc_turns pm_turns an_turns cd_turns ct_turns), sl_turns⟩)
    (e_turns : PySem.W.codeIn K cd_turns "turns" = true)
    (k_turns : PySem.W.keepIn K (.ref f_turns) = true)
    (a_check_few : PySem.W.nsIn K mainGlobals "check_few" = some (some (.ref f_check_few)))
    (l_check_few : K.lookup f_check_few = some ⟨oc_check_few, od_check_few, .func (PySem.W.fnOf "check_few" "check_few" (defArgs s_check_few) (defBody s_check_few) (defScope s_check_few) .none kV_check_few dc_check_few pm_check_few an_check_few cd_check_few ct_check_few), sl_check_few⟩)
    (e_check_few : PySem.W.codeIn K cd_check_few "check_few" = true)
    (k_check_few : PySem.W.keepIn K (.ref f_check_few) = true)
    (a_all_rings : PySem.W.nsIn K mainGlobals "all_rings" = some (some (.ref f_all_rings)))
    (l_all_rings : K.lookup f_all_rings = some ⟨oc_all_rings, od_all_rings, .func (PySem.W.fnOf "all_rings" "all_rings" (defArgs s_all_rings) (defBody s_all_rings) (defScope s_all_rings) .none kV_all_rings dc_all_rings pm_all_rings an_all_rings cd_all_rings ct_all_rings), sl_all_rings⟩)
    (e_all_rings : PySem.W.codeIn K cd_all_rings "all_rings" = true)
    (k_all_rings : PySem.W.keepIn K (.ref f_all_rings) = true)
    (a_ways_from : PySem.W.nsIn K mainGlobals "ways_from" = some (some (.ref f_ways_from)))
    (l_ways_from : K.lookup f_ways_from = some ⟨oc_ways_from, od_ways_from, .func (PySem.W.fnOf "ways_from" "ways_from" (defArgs s_ways_from) (defBody s_ways_from) (defScope s_ways_from) .none kV_ways_from dc_ways_from pm_ways_from an_ways_from cd_ways_from ct_ways_from), sl_ways_from⟩)
    (e_ways_from : PySem.W.codeIn K cd_ways_from "ways_from" = true)
    (k_ways_from : PySem.W.keepIn K (.ref f_ways_from) = true)
    (a_all_ways : PySem.W.nsIn K mainGlobals "all_ways" = some (some (.ref f_all_ways)))
    (l_all_ways : K.lookup f_all_ways = some ⟨oc_all_ways, od_all_ways, .func (PySem.W.fnOf "all_ways" "all_ways" (defArgs s_all_ways) (defBody s_all_ways) (defScope s_all_ways) .none kV_all_ways dc_all_ways pm_all_ways an_all_ways cd_all_ways ct_all_ways), sl_all_ways⟩)
    (e_all_ways : PySem.W.codeIn K cd_all_ways "all_ways" = true)
    (k_all_ways : PySem.W.keepIn K (.ref f_all_ways) = true)
    (a_all_in : PySem.W.nsIn K mainGlobals "all_in" = some (some (.ref f_all_in)))
    (l_all_in : K.lookup f_all_in = some ⟨oc_all_in, od_all_in, .func (PySem.W.fnOf "all_in" "all_in" (defArgs s_all_in) (defBody s_all_in) (defScope s_all_in) .none kV_all_in dc_all_in pm_all_in an_all_in cd_all_in ct_all_in), sl_all_in⟩)
    (e_all_in : PySem.W.codeIn K cd_all_in "all_in" = true)
    (k_all_in : PySem.W.keepIn K (.ref f_all_in) = true)
    (a_longest_steps : PySem.W.nsIn K mainGlobals "longest_steps" = some (some (.ref f_longest_steps)))
    (l_longest_steps : K.lookup f_longest_steps = some ⟨oc_longest_steps, od_longest_steps, .func (PySem.W.fnOf "longest_steps" "longest_steps" (defArgs s_longest_steps) (defBody s_longest_steps) (defScope s_longest_steps) .none kV_longest_steps dc_longest_steps pm_longest_steps an_longest_steps cd_longest_steps ct_longest_steps), sl_longest_steps⟩)
    (e_longest_steps : PySem.W.codeIn K cd_longest_steps "longest_steps" = true)
    (k_longest_steps : PySem.W.keepIn K (.ref f_longest_steps) = true)
    (a_longest_order : PySem.W.nsIn K mainGlobals "longest_order" = some (some (.ref f_longest_order)))
    (l_longest_order : K.lookup f_longest_order = some ⟨oc_longest_order, od_longest_order, .func (PySem.W.fnOf "longest_order" "longest_order" (defArgs s_longest_order) (defBody s_longest_order) (defScope s_longest_order) .none kV_longest_order dc_longest_order pm_longest_order an_longest_order cd_longest_order ct_longest_order), sl_longest_order⟩)
    (e_longest_order : PySem.W.codeIn K cd_longest_order "longest_order" = true)
    (k_longest_order : PySem.W.keepIn K (.ref f_longest_order) = true)
    (a_way_around : PySem.W.nsIn K mainGlobals "way_around" = some (some (.ref f_way_around)))
    (l_way_around : K.lookup f_way_around = some ⟨oc_way_around, od_way_around, .func (PySem.W.fnOf "way_around" "way_around" (defArgs s_way_around) (defBody s_way_around) (defScope s_way_around) .none kV_way_around dc_way_around pm_way_around an_way_around cd_way_around ct_way_around), sl_way_around⟩)
    (e_way_around : PySem.W.codeIn K cd_way_around "way_around" = true)
    (k_way_around : PySem.W.keepIn K (.ref f_way_around) = true)
    (a_worst : PySem.W.nsIn K mainGlobals "worst" = some (some (.ref f_worst)))
    (l_worst : K.lookup f_worst = some ⟨oc_worst, od_worst, .func (PySem.W.fnOf "worst" "worst" (defArgs s_worst) (defBody s_worst) (defScope s_worst) .none kV_worst dc_worst pm_worst an_worst (.ref cc_worst) ct_worst), sl_worst⟩)
    (e_worst : PySem.W.codeIn K (.ref cc_worst) "worst" = true)
    (h_worst : PySem.W.codeHdIn K cc_worst P_worst = true)
    (o_worst : K.lookup P_worst = none)
    (k_worst : PySem.W.keepIn K (.ref f_worst) = true)
    (a_never : PySem.W.nsIn K mainGlobals "never" = some (some (.ref f_never)))
    (l_never : K.lookup f_never = some ⟨oc_never, od_never, .func (PySem.W.fnOf "never" "never" (defArgs s_never) (defBody s_never) (defScope s_never) .none kV_never dc_never pm_never an_never cd_never ct_never), sl_never⟩)
    (e_never : PySem.W.codeIn K cd_never "never" = true)
    (k_never : PySem.W.keepIn K (.ref f_never) = true)
    (a__law_cell_at : PySem.W.nsIn K mainGlobals "_law_cell_at" = some (some (.ref f__law_cell_at)))
    (l__law_cell_at : K.lookup f__law_cell_at = some ⟨oc__law_cell_at, od__law_cell_at, .func (PySem.W.fnOf "_law_cell_at" "_law_cell_at" (defArgs s__law_cell_at) (defBody s__law_cell_at) (defScope s__law_cell_at) .none kV__law_cell_at dc__law_cell_at pm__law_cell_at an__law_cell_at cd__law_cell_at ct__law_cell_at), sl__law_cell_at⟩)
    (e__law_cell_at : PySem.W.codeIn K cd__law_cell_at "_law_cell_at" = true)
    (k__law_cell_at : PySem.W.keepIn K (.ref f__law_cell_at) = true)
    (a__law_mixed : PySem.W.nsIn K mainGlobals "_law_mixed" = some (some (.ref f__law_mixed)))
    (l__law_mixed : K.lookup f__law_mixed = some ⟨oc__law_mixed, od__law_mixed, .func (PySem.W.fnOf "_law_mixed" "_law_mixed" (defArgs s__law_mixed) (defBody s__law_mixed) (defScope s__law_mixed) .none kV__law_mixed dc__law_mixed pm__law_mixed an__law_mixed cd__law_mixed ct__law_mixed), sl__law_mixed⟩)
    (e__law_mixed : PySem.W.codeIn K cd__law_mixed "_law_mixed" = true)
    (k__law_mixed : PySem.W.keepIn K (.ref f__law_mixed) = true)
    (a__law_size : PySem.W.nsIn K mainGlobals "_law_size" = some (some (.ref f__law_size)))
    (l__law_size : K.lookup f__law_size = some ⟨oc__law_size, od__law_size, .func (PySem.W.fnOf "_law_size" "_law_size" (defArgs s__law_size) (defBody s__law_size) (defScope s__law_size) .none kV__law_size dc__law_size pm__law_size an__law_size cd__law_size ct__law_size), sl__law_size⟩)
    (e__law_size : PySem.W.codeIn K cd__law_size "_law_size" = true)
    (k__law_size : PySem.W.keepIn K (.ref f__law_size) = true)
    (a__law_many : PySem.W.nsIn K mainGlobals "_law_many" = some (some (.ref f__law_many)))
    (l__law_many : K.lookup f__law_many = some ⟨oc__law_many, od__law_many, .func (PySem.W.fnOf "_law_many" "_law_many" (defArgs s__law_many) (defBody s__law_many) (defScope s__law_many) .none kV__law_many dc__law_many pm__law_many an__law_many cd__law_many ct__law_many), sl__law_many⟩)
    (e__law_many : PySem.W.codeIn K cd__law_many "_law_many" = true)
    (k__law_many : PySem.W.keepIn K (.ref f__law_many) = true)
    (a__law_ring : PySem.W.nsIn K mainGlobals "_law_ring" = some (some (.ref f__law_ring)))
    (l__law_ring : K.lookup f__law_ring = some ⟨oc__law_ring, od__law_ring, .func (PySem.W.fnOf "_law_ring" "_law_ring" (defArgs s__law_ring) (defBody s__law_ring) (defScope s__law_ring) .none kV__law_ring dc__law_ring pm__law_ring an__law_ring cd__law_ring ct__law_ring), sl__law_ring⟩)
    (e__law_ring : PySem.W.codeIn K cd__law_ring "_law_ring" = true)
    (k__law_ring : PySem.W.keepIn K (.ref f__law_ring) = true)
    (a__law_pick : PySem.W.nsIn K mainGlobals "_law_pick" = some (some (.ref f__law_pick)))
    (l__law_pick : K.lookup f__law_pick = some ⟨oc__law_pick, od__law_pick, .func (PySem.W.fnOf "_law_pick" "_law_pick" (defArgs s__law_pick) (defBody s__law_pick) (defScope s__law_pick) .none kV__law_pick dc__law_pick pm__law_pick an__law_pick cd__law_pick ct__law_pick), sl__law_pick⟩)
    (e__law_pick : PySem.W.codeIn K cd__law_pick "_law_pick" = true)
    (k__law_pick : PySem.W.keepIn K (.ref f__law_pick) = true)
    (a__law_order : PySem.W.nsIn K mainGlobals "_law_order" = some (some (.ref f__law_order)))
    (l__law_order : K.lookup f__law_order = some ⟨oc__law_order, od__law_order, .func (PySem.W.fnOf "_law_order" "_law_order" (defArgs s__law_order) (defBody s__law_order) (defScope s__law_order) .none kV__law_order dc__law_order pm__law_order an__law_order cd__law_order ct__law_order), sl__law_order⟩)
    (e__law_order : PySem.W.codeIn K cd__law_order "_law_order" = true)
    (k__law_order : PySem.W.keepIn K (.ref f__law_order) = true)
    (a__law_ask : PySem.W.nsIn K mainGlobals "_law_ask" = some (some (.ref f__law_ask)))
    (l__law_ask : K.lookup f__law_ask = some ⟨oc__law_ask, od__law_ask, .func (PySem.W.fnOf "_law_ask" "_law_ask" (defArgs s__law_ask) (defBody s__law_ask) (defScope s__law_ask) .none kV__law_ask dc__law_ask pm__law_ask an__law_ask cd__law_ask ct__law_ask), sl__law_ask⟩)
    (e__law_ask : PySem.W.codeIn K cd__law_ask "_law_ask" = true)
    (k__law_ask : PySem.W.keepIn K (.ref f__law_ask) = true)
    (a__law_small : PySem.W.nsIn K mainGlobals "_law_small" = some (some (.ref f__law_small)))
    (l__law_small : K.lookup f__law_small = some ⟨oc__law_small, od__law_small, .func (PySem.W.fnOf "_law_small" "_law_small" (defArgs s__law_small) (defBody s__law_small) (defScope s__law_small) .none kV__law_small dc__law_small pm__law_small an__law_small cd__law_small ct__law_small), sl__law_small⟩)
    (e__law_small : PySem.W.codeIn K cd__law_small "_law_small" = true)
    (k__law_small : PySem.W.keepIn K (.ref f__law_small) = true)
    (a_law : PySem.W.nsIn K mainGlobals "law" = some (some (.ref f_law)))
    (l_law : K.lookup f_law = some ⟨oc_law, od_law, .func (PySem.W.fnOf "law" "law" (defArgs s_law) (defBody s_law) (defScope s_law) .none kV_law dc_law pm_law an_law cd_law ct_law), sl_law⟩)
    (e_law : PySem.W.codeIn K cd_law "law" = true)
    (k_law : PySem.W.keepIn K (.ref f_law) = true)
    (v_FEWEST_MACHINES : PySem.W.nsIn K mainGlobals "FEWEST_MACHINES" = some (some (.int 2 t_FEWEST_MACHINES)))
    (v_MOST_MACHINES : PySem.W.nsIn K mainGlobals "MOST_MACHINES" = some (some (.int 12 t_MOST_MACHINES)))
    (v_FEWEST_NUMBERS : PySem.W.nsIn K mainGlobals "FEWEST_NUMBERS" = some (some (.int 2 t_FEWEST_NUMBERS)))
    (v_MOST_NUMBERS : PySem.W.nsIn K mainGlobals "MOST_NUMBERS" = some (some (.int 100 t_MOST_NUMBERS)))
    (v_MOST_RINGS : PySem.W.nsIn K mainGlobals "MOST_RINGS" = some (some (.int 300 t_MOST_RINGS)))
    (x_HealError : PySem.W.nsIn K mainGlobals "HealError" = some (some (.ref c_HealError)))
    (xe_HealError : PySem.W.excIn K c_HealError [.type "ValueError", .type "Exception", .type "BaseException", .type "object"] "ValueError.__new__" = true)
    (xk_HealError : PySem.W.keepIn K (.ref c_HealError) = true)
    (xb_HealError : PySem.W.subIn K (.ref c_HealError) (.type "BaseException") = some true)
    (xt_HealError : PySem.W.typeIn K (.ref c_HealError) = some (.type "type"))
    (xi_HealError : PySem.W.isClsIn K c_HealError = true)
    (xv_HealError : PySem.W.subIn K (.ref c_HealError) (.type "ValueError") = some true)
    (xg_HealError : PySem.W.findIn K (.ref c_HealError) "__getattribute__" = some (some (.builtin "BaseException.__getattribute__")))
    (xh_HealError : PySem.W.findIn K (.ref c_HealError) "__getattr__" = some none)
    (xd_HealError : PySem.W.hasDictIn K c_HealError = true)
    (xc_HealError : PySem.W.findIn K (.ref c_HealError) "__class__" = some (some (.builtin "object.__class__")))
    (xm_HealError : PySem.W.mroIn K c_HealError (.type "object") = some true)
    (x_NoNumbers : PySem.W.nsIn K mainGlobals "NoNumbers" = some (some (.ref c_NoNumbers)))
    (xe_NoNumbers : PySem.W.excIn K c_NoNumbers [.type "ValueError", .type "Exception", .type "BaseException", .type "object"] "ValueError.__new__" = true)
    (xk_NoNumbers : PySem.W.keepIn K (.ref c_NoNumbers) = true)
    (xb_NoNumbers : PySem.W.subIn K (.ref c_NoNumbers) (.type "BaseException") = some true)
    (xt_NoNumbers : PySem.W.typeIn K (.ref c_NoNumbers) = some (.type "type"))
    (xi_NoNumbers : PySem.W.isClsIn K c_NoNumbers = true)
    (xv_NoNumbers : PySem.W.subIn K (.ref c_NoNumbers) (.type "ValueError") = some true)
    (xg_NoNumbers : PySem.W.findIn K (.ref c_NoNumbers) "__getattribute__" = some (some (.builtin "BaseException.__getattribute__")))
    (xh_NoNumbers : PySem.W.findIn K (.ref c_NoNumbers) "__getattr__" = some none)
    (xd_NoNumbers : PySem.W.hasDictIn K c_NoNumbers = true)
    (xc_NoNumbers : PySem.W.findIn K (.ref c_NoNumbers) "__class__" = some (some (.builtin "object.__class__")))
    (xm_NoNumbers : PySem.W.mroIn K c_NoNumbers (.type "object") = some true)
    (x_NoRing : PySem.W.nsIn K mainGlobals "NoRing" = some (some (.ref c_NoRing)))
    (xe_NoRing : PySem.W.excIn K c_NoRing [.type "ValueError", .type "Exception", .type "BaseException", .type "object"] "ValueError.__new__" = true)
    (xk_NoRing : PySem.W.keepIn K (.ref c_NoRing) = true)
    (xb_NoRing : PySem.W.subIn K (.ref c_NoRing) (.type "BaseException") = some true)
    (xt_NoRing : PySem.W.typeIn K (.ref c_NoRing) = some (.type "type"))
    (xi_NoRing : PySem.W.isClsIn K c_NoRing = true)
    (xv_NoRing : PySem.W.subIn K (.ref c_NoRing) (.type "ValueError") = some true)
    (xg_NoRing : PySem.W.findIn K (.ref c_NoRing) "__getattribute__" = some (some (.builtin "BaseException.__getattribute__")))
    (xh_NoRing : PySem.W.findIn K (.ref c_NoRing) "__getattr__" = some none)
    (xd_NoRing : PySem.W.hasDictIn K c_NoRing = true)
    (xc_NoRing : PySem.W.findIn K (.ref c_NoRing) "__class__" = some (some (.builtin "object.__class__")))
    (xm_NoRing : PySem.W.mroIn K c_NoRing (.type "object") = some true)
    (x_NoMachine : PySem.W.nsIn K mainGlobals "NoMachine" = some (some (.ref c_NoMachine)))
    (xe_NoMachine : PySem.W.excIn K c_NoMachine [.type "ValueError", .type "Exception", .type "BaseException", .type "object"] "ValueError.__new__" = true)
    (xk_NoMachine : PySem.W.keepIn K (.ref c_NoMachine) = true)
    (xb_NoMachine : PySem.W.subIn K (.ref c_NoMachine) (.type "BaseException") = some true)
    (xt_NoMachine : PySem.W.typeIn K (.ref c_NoMachine) = some (.type "type"))
    (xi_NoMachine : PySem.W.isClsIn K c_NoMachine = true)
    (xv_NoMachine : PySem.W.subIn K (.ref c_NoMachine) (.type "ValueError") = some true)
    (xg_NoMachine : PySem.W.findIn K (.ref c_NoMachine) "__getattribute__" = some (some (.builtin "BaseException.__getattribute__")))
    (xh_NoMachine : PySem.W.findIn K (.ref c_NoMachine) "__getattr__" = some none)
    (xd_NoMachine : PySem.W.hasDictIn K c_NoMachine = true)
    (xc_NoMachine : PySem.W.findIn K (.ref c_NoMachine) "__class__" = some (some (.builtin "object.__class__")))
    (xm_NoMachine : PySem.W.mroIn K c_NoMachine (.type "object") = some true)
    (x_NotNow : PySem.W.nsIn K mainGlobals "NotNow" = some (some (.ref c_NotNow)))
    (xe_NotNow : PySem.W.excIn K c_NotNow [.type "ValueError", .type "Exception", .type "BaseException", .type "object"] "ValueError.__new__" = true)
    (xk_NotNow : PySem.W.keepIn K (.ref c_NotNow) = true)
    (xb_NotNow : PySem.W.subIn K (.ref c_NotNow) (.type "BaseException") = some true)
    (xt_NotNow : PySem.W.typeIn K (.ref c_NotNow) = some (.type "type"))
    (xi_NotNow : PySem.W.isClsIn K c_NotNow = true)
    (xv_NotNow : PySem.W.subIn K (.ref c_NotNow) (.type "ValueError") = some true)
    (xg_NotNow : PySem.W.findIn K (.ref c_NotNow) "__getattribute__" = some (some (.builtin "BaseException.__getattribute__")))
    (xh_NotNow : PySem.W.findIn K (.ref c_NotNow) "__getattr__" = some none)
    (xd_NotNow : PySem.W.hasDictIn K c_NotNow = true)
    (xc_NotNow : PySem.W.findIn K (.ref c_NotNow) "__class__" = some (some (.builtin "object.__class__")))
    (xm_NotNow : PySem.W.mroIn K c_NotNow (.type "object") = some true)
    (x_NotHealed : PySem.W.nsIn K mainGlobals "NotHealed" = some (some (.ref c_NotHealed)))
    (xe_NotHealed : PySem.W.excIn K c_NotHealed [.type "ValueError", .type "Exception", .type "BaseException", .type "object"] "ValueError.__new__" = true)
    (xk_NotHealed : PySem.W.keepIn K (.ref c_NotHealed) = true)
    (xb_NotHealed : PySem.W.subIn K (.ref c_NotHealed) (.type "BaseException") = some true)
    (xt_NotHealed : PySem.W.typeIn K (.ref c_NotHealed) = some (.type "type"))
    (xi_NotHealed : PySem.W.isClsIn K c_NotHealed = true)
    (xv_NotHealed : PySem.W.subIn K (.ref c_NotHealed) (.type "ValueError") = some true)
    (xg_NotHealed : PySem.W.findIn K (.ref c_NotHealed) "__getattribute__" = some (some (.builtin "BaseException.__getattribute__")))
    (xh_NotHealed : PySem.W.findIn K (.ref c_NotHealed) "__getattr__" = some none)
    (xd_NotHealed : PySem.W.hasDictIn K c_NotHealed = true)
    (xc_NotHealed : PySem.W.findIn K (.ref c_NotHealed) "__class__" = some (some (.builtin "object.__class__")))
    (xm_NotHealed : PySem.W.mroIn K c_NotHealed (.type "object") = some true)
    (x_TooGreat : PySem.W.nsIn K mainGlobals "TooGreat" = some (some (.ref c_TooGreat)))
    (xe_TooGreat : PySem.W.excIn K c_TooGreat [.type "ValueError", .type "Exception", .type "BaseException", .type "object"] "ValueError.__new__" = true)
    (xk_TooGreat : PySem.W.keepIn K (.ref c_TooGreat) = true)
    (xb_TooGreat : PySem.W.subIn K (.ref c_TooGreat) (.type "BaseException") = some true)
    (xt_TooGreat : PySem.W.typeIn K (.ref c_TooGreat) = some (.type "type"))
    (xi_TooGreat : PySem.W.isClsIn K c_TooGreat = true)
    (xv_TooGreat : PySem.W.subIn K (.ref c_TooGreat) (.type "ValueError") = some true)
    (xg_TooGreat : PySem.W.findIn K (.ref c_TooGreat) "__getattribute__" = some (some (.builtin "BaseException.__getattribute__")))
    (xh_TooGreat : PySem.W.findIn K (.ref c_TooGreat) "__getattr__" = some none)
    (xd_TooGreat : PySem.W.hasDictIn K c_TooGreat = true)
    (xc_TooGreat : PySem.W.findIn K (.ref c_TooGreat) "__class__" = some (some (.builtin "object.__class__")))
    (xm_TooGreat : PySem.W.mroIn K c_TooGreat (.type "object") = some true)
    (yn : PySem.W.specialIn K (.builtin "object.__class__") "__get__" = some (some (.builtin "getset_descriptor.__get__")))
    (yt : PySem.W.takesIn K (.builtin "object.__class__") = some true)
    (z_NoNumbers_HealError : PySem.W.subIn K (.ref c_NoNumbers) (.ref c_HealError) = some true)
    (z_NoNumbers_NoNumbers : PySem.W.subIn K (.ref c_NoNumbers) (.ref c_NoNumbers) = some true)
    (z_NoNumbers_NoRing : PySem.W.subIn K (.ref c_NoNumbers) (.ref c_NoRing) = some false)
    (z_NoNumbers_NoMachine : PySem.W.subIn K (.ref c_NoNumbers) (.ref c_NoMachine) = some false)
    (z_NoNumbers_NotNow : PySem.W.subIn K (.ref c_NoNumbers) (.ref c_NotNow) = some false)
    (z_NoNumbers_NotHealed : PySem.W.subIn K (.ref c_NoNumbers) (.ref c_NotHealed) = some false)
    (z_NoNumbers_TooGreat : PySem.W.subIn K (.ref c_NoNumbers) (.ref c_TooGreat) = some false)
    (z_NoRing_HealError : PySem.W.subIn K (.ref c_NoRing) (.ref c_HealError) = some true)
    (z_NoRing_NoNumbers : PySem.W.subIn K (.ref c_NoRing) (.ref c_NoNumbers) = some false)
    (z_NoRing_NoRing : PySem.W.subIn K (.ref c_NoRing) (.ref c_NoRing) = some true)
    (z_NoRing_NoMachine : PySem.W.subIn K (.ref c_NoRing) (.ref c_NoMachine) = some false)
    (z_NoRing_NotNow : PySem.W.subIn K (.ref c_NoRing) (.ref c_NotNow) = some false)
    (z_NoRing_NotHealed : PySem.W.subIn K (.ref c_NoRing) (.ref c_NotHealed) = some false)
    (z_NoRing_TooGreat : PySem.W.subIn K (.ref c_NoRing) (.ref c_TooGreat) = some false)
    (z_NoMachine_HealError : PySem.W.subIn K (.ref c_NoMachine) (.ref c_HealError) = some true)
    (z_NoMachine_NoNumbers : PySem.W.subIn K (.ref c_NoMachine) (.ref c_NoNumbers) = some false)
    (z_NoMachine_NoRing : PySem.W.subIn K (.ref c_NoMachine) (.ref c_NoRing) = some false)
    (z_NoMachine_NoMachine : PySem.W.subIn K (.ref c_NoMachine) (.ref c_NoMachine) = some true)
    (z_NoMachine_NotNow : PySem.W.subIn K (.ref c_NoMachine) (.ref c_NotNow) = some false)
    (z_NoMachine_NotHealed : PySem.W.subIn K (.ref c_NoMachine) (.ref c_NotHealed) = some false)
    (z_NoMachine_TooGreat : PySem.W.subIn K (.ref c_NoMachine) (.ref c_TooGreat) = some false)
    (z_NotNow_HealError : PySem.W.subIn K (.ref c_NotNow) (.ref c_HealError) = some true)
    (z_NotNow_NoNumbers : PySem.W.subIn K (.ref c_NotNow) (.ref c_NoNumbers) = some false)
    (z_NotNow_NoRing : PySem.W.subIn K (.ref c_NotNow) (.ref c_NoRing) = some false)
    (z_NotNow_NoMachine : PySem.W.subIn K (.ref c_NotNow) (.ref c_NoMachine) = some false)
    (z_NotNow_NotNow : PySem.W.subIn K (.ref c_NotNow) (.ref c_NotNow) = some true)
    (z_NotNow_NotHealed : PySem.W.subIn K (.ref c_NotNow) (.ref c_NotHealed) = some false)
    (z_NotNow_TooGreat : PySem.W.subIn K (.ref c_NotNow) (.ref c_TooGreat) = some false)
    (z_NotHealed_HealError : PySem.W.subIn K (.ref c_NotHealed) (.ref c_HealError) = some true)
    (z_NotHealed_NoNumbers : PySem.W.subIn K (.ref c_NotHealed) (.ref c_NoNumbers) = some false)
    (z_NotHealed_NoRing : PySem.W.subIn K (.ref c_NotHealed) (.ref c_NoRing) = some false)
    (z_NotHealed_NoMachine : PySem.W.subIn K (.ref c_NotHealed) (.ref c_NoMachine) = some false)
    (z_NotHealed_NotNow : PySem.W.subIn K (.ref c_NotHealed) (.ref c_NotNow) = some false)
    (z_NotHealed_NotHealed : PySem.W.subIn K (.ref c_NotHealed) (.ref c_NotHealed) = some true)
    (z_NotHealed_TooGreat : PySem.W.subIn K (.ref c_NotHealed) (.ref c_TooGreat) = some false)
    (z_TooGreat_HealError : PySem.W.subIn K (.ref c_TooGreat) (.ref c_HealError) = some true)
    (z_TooGreat_NoNumbers : PySem.W.subIn K (.ref c_TooGreat) (.ref c_NoNumbers) = some false)
    (z_TooGreat_NoRing : PySem.W.subIn K (.ref c_TooGreat) (.ref c_NoRing) = some false)
    (z_TooGreat_NoMachine : PySem.W.subIn K (.ref c_TooGreat) (.ref c_NoMachine) = some false)
    (z_TooGreat_NotNow : PySem.W.subIn K (.ref c_TooGreat) (.ref c_NotNow) = some false)
    (z_TooGreat_NotHealed : PySem.W.subIn K (.ref c_TooGreat) (.ref c_NotHealed) = some false)
    (z_TooGreat_TooGreat : PySem.W.subIn K (.ref c_TooGreat) (.ref c_TooGreat) = some true)
    (n_abs : PySem.W.nsIn K mainGlobals "abs" = some none)
    (n_all : PySem.W.nsIn K mainGlobals "all" = some none)
    (n_int : PySem.W.nsIn K mainGlobals "int" = some none)
    (n_len : PySem.W.nsIn K mainGlobals "len" = some none)
    (n_list : PySem.W.nsIn K mainGlobals "list" = some none)
    (n_max : PySem.W.nsIn K mainGlobals "max" = some none)
    (n_min : PySem.W.nsIn K mainGlobals "min" = some none)
    (n_range : PySem.W.nsIn K mainGlobals "range" = some none)
    (n_tuple : PySem.W.nsIn K mainGlobals "tuple" = some none)
    : LamX.LawAtS l w K CX0 8 63 "_law_script" mg fa h := by
  have e := hfa.symm.trans (PySem.W.mg_of X G a_law)
  cases e
  have F_check_many := fun_mk (st := s_check_many) l_check_many e_check_many k_check_many
  have F_check_machines := fun_mk (st := s_check_machines) l_check_machines e_check_machines k_check_machines
  have F_check_ring := fun_mk (st := s_check_ring) l_check_ring e_check_ring k_check_ring
  have F_check_machine := fun_mk (st := s_check_machine) l_check_machine e_check_machine k_check_machine
  have F_may_step := fun_mk (st := s_may_step) l_may_step e_may_step k_may_step
  have F_taken := fun_mk (st := s_taken) l_taken e_taken k_taken
  have F_after := fun_mk (st := s_after) l_after e_after k_after
  have F_able := fun_mk (st := s_able) l_able e_able k_able
  have F_stepped := fun_mk (st := s_stepped) l_stepped e_stepped k_stepped
  have F_gone := fun_mk (st := s_gone) l_gone e_gone k_gone
  have F_chosen := fun_mk (st := s_chosen) l_chosen e_chosen k_chosen
  have F_drawn := fun_mk (st := s_drawn) l_drawn e_drawn k_drawn
  have F_counted := fun_mk (st := s_counted) l_counted e_counted k_counted
  have F_traced := fun_mk (st := s_traced) l_traced e_traced k_traced
  have F_check_enough := fun_mk (st := s_check_enough) l_check_enough e_check_enough k_check_enough
  have F_healed := fun_mk (st := s_healed) l_healed e_healed k_healed
  have F_healing := fun_mk (st := s_healing) l_healing e_healing k_healing
  have F_most := fun_mk (st := s_most) l_most e_most k_most
  have F_turns := fun_mk (st := s_turns) l_turns e_turns k_turns
  have F_check_few := fun_mk (st := s_check_few) l_check_few e_check_few k_check_few
  have F_all_rings := fun_mk (st := s_all_rings) l_all_rings e_all_rings k_all_rings
  have F_ways_from := fun_mk (st := s_ways_from) l_ways_from e_ways_from k_ways_from
  have F_all_ways := fun_mk (st := s_all_ways) l_all_ways e_all_ways k_all_ways
  have F_all_in := fun_mk (st := s_all_in) l_all_in e_all_in k_all_in
  have F_longest_steps := fun_mk (st := s_longest_steps) l_longest_steps e_longest_steps k_longest_steps
  have F_longest_order := fun_mk (st := s_longest_order) l_longest_order e_longest_order k_longest_order
  have F_way_around := fun_mk (st := s_way_around) l_way_around e_way_around k_way_around
  have F_worst := fun_mk (st := s_worst) l_worst e_worst k_worst
  have F_never := fun_mk (st := s_never) l_never e_never k_never
  have F__law_cell_at := fun_mk (st := s__law_cell_at) l__law_cell_at e__law_cell_at k__law_cell_at
  have F__law_mixed := fun_mk (st := s__law_mixed) l__law_mixed e__law_mixed k__law_mixed
  have F__law_size := fun_mk (st := s__law_size) l__law_size e__law_size k__law_size
  have F__law_many := fun_mk (st := s__law_many) l__law_many e__law_many k__law_many
  have F__law_ring := fun_mk (st := s__law_ring) l__law_ring e__law_ring k__law_ring
  have F__law_pick := fun_mk (st := s__law_pick) l__law_pick e__law_pick k__law_pick
  have F__law_order := fun_mk (st := s__law_order) l__law_order e__law_order k__law_order
  have F__law_ask := fun_mk (st := s__law_ask) l__law_ask e__law_ask k__law_ask
  have F__law_small := fun_mk (st := s__law_small) l__law_small e__law_small k__law_small
  have F_law := fun_mk (st := s_law) l_law e_law k_law
  exact ⟨PySem.W.fnOf "law" "law" (defArgs s_law) (defBody s_law) (defScope s_law) .none kV_law dc_law pm_law an_law cd_law ct_law, [(cc_worst, P_worst)], sp_law K P_worst, HL.one1 hP_worst, HL.one1 o_worst, HL.one1 (PySem.W.codeHd_of_K X h_worst), fun s v => .of_eq rfl, fun H a ns hl _ hT hS => law_end hl hS (hT _ List.mem_cons_self), fun base _ _ TB => ok_law (P := l.prog) (w := w) (base := base) {
    f_check_many := f_check_many,
    d_check_many := _,
    F_check_many := F_check_many,
    g_check_many := PySem.W.mg_of X G a_check_many,
    b_check_many := F_check_many.binds (ps := ["many"]) fun _ _ _ _ _ _ us hl => match us, hl with | [_], _ => rfl,
    f_check_machines := f_check_machines,
    d_check_machines := _,
    F_check_machines := F_check_machines,
    g_check_machines := PySem.W.mg_of X G a_check_machines,
    b_check_machines := F_check_machines.binds (ps := ["machines"]) fun _ _ _ _ _ _ us hl => match us, hl with | [_], _ => rfl,
    f_check_ring := f_check_ring,
    d_check_ring := _,
    F_check_ring := F_check_ring,
    g_check_ring := PySem.W.mg_of X G a_check_ring,
    b_check_ring := F_check_ring.binds (ps := ["ring", "many"]) fun _ _ _ _ _ _ us hl => match us, hl with | [_, _], _ => rfl,
    f_check_machine := f_check_machine,
    d_check_machine := _,
    F_check_machine := F_check_machine,
    g_check_machine := PySem.W.mg_of X G a_check_machine,
    b_check_machine := F_check_machine.binds (ps := ["machine", "machines"]) fun _ _ _ _ _ _ us hl => match us, hl with | [_, _], _ => rfl,
    f_may_step := f_may_step,
    d_may_step := _,
    F_may_step := F_may_step,
    g_may_step := PySem.W.mg_of X G a_may_step,
    b_may_step := F_may_step.binds (ps := ["ring", "machine"]) fun _ _ _ _ _ _ us hl => match us, hl with | [_, _], _ => rfl,
    f_taken := f_taken,
    d_taken := _,
    F_taken := F_taken,
    g_taken := PySem.W.mg_of X G a_taken,
    b_taken := F_taken.binds (ps := ["ring", "many", "machine"]) fun _ _ _ _ _ _ us hl => match us, hl with | [_, _, _], _ => rfl,
    f_after := f_after,
    d_after := _,
    F_after := F_after,
    g_after := PySem.W.mg_of X G a_after,
    b_after := F_after.binds (ps := ["ring", "many", "machine"]) fun _ _ _ _ _ _ us hl => match us, hl with | [_, _, _], _ => rfl,
    f_able := f_able,
    d_able := _,
    F_able := F_able,
    g_able := PySem.W.mg_of X G a_able,
    b_able := F_able.binds (ps := ["ring", "many"]) fun _ _ _ _ _ _ us hl => match us, hl with | [_, _], _ => rfl,
    f_stepped := f_stepped,
    d_stepped := _,
    F_stepped := F_stepped,
    g_stepped := PySem.W.mg_of X G a_stepped,
    b_stepped := F_stepped.binds (ps := ["ring", "many", "machine"]) fun _ _ _ _ _ _ us hl => match us, hl with | [_, _, _], _ => rfl,
    f_gone := f_gone,
    d_gone := _,
    F_gone := F_gone,
    g_gone := PySem.W.mg_of X G a_gone,
    b_gone := F_gone.binds (ps := ["ring", "many", "order"]) fun _ _ _ _ _ _ us hl => match us, hl with | [_, _, _], _ => rfl,
    f_chosen := f_chosen,
    d_chosen := _,
    F_chosen := F_chosen,
    g_chosen := PySem.W.mg_of X G a_chosen,
    b_chosen := F_chosen.binds (ps := ["machines", "numbers", "step"]) fun _ _ _ _ _ _ us hl => match us, hl with | [_, _, _], _ => rfl,
    f_drawn := f_drawn,
    d_drawn := _,
    F_drawn := F_drawn,
    g_drawn := PySem.W.mg_of X G a_drawn,
    b_drawn := F_drawn.binds (ps := ["ring", "many", "numbers", "steps"]) fun _ _ _ _ _ _ us hl => match us, hl with | [_, _, _, _], _ => rfl,
    f_counted := f_counted,
    d_counted := _,
    F_counted := F_counted,
    g_counted := PySem.W.mg_of X G a_counted,
    b_counted := F_counted.binds (ps := ["order", "machines"]) fun _ _ _ _ _ _ us hl => match us, hl with | [_, _], _ => rfl,
    f_traced := f_traced,
    d_traced := _,
    F_traced := F_traced,
    g_traced := PySem.W.mg_of X G a_traced,
    b_traced := F_traced.binds (ps := ["ring", "many", "order"]) fun _ _ _ _ _ _ us hl => match us, hl with | [_, _, _], _ => rfl,
    f_check_enough := f_check_enough,
    d_check_enough := _,
    F_check_enough := F_check_enough,
    g_check_enough := PySem.W.mg_of X G a_check_enough,
    b_check_enough := F_check_enough.binds (ps := ["many", "machines"]) fun _ _ _ _ _ _ us hl => match us, hl with | [_, _], _ => rfl,
    f_healed := f_healed,
    d_healed := _,
    F_healed := F_healed,
    g_healed := PySem.W.mg_of X G a_healed,
    b_healed := F_healed.binds (ps := ["ring", "many"]) fun _ _ _ _ _ _ us hl => match us, hl with | [_, _], _ => rfl,
    f_healing := f_healing,
    d_healing := _,
    F_healing := F_healing,
    g_healing := PySem.W.mg_of X G a_healing,
    b_healing := F_healing.binds (ps := ["ring", "many", "numbers"]) fun _ _ _ _ _ _ us hl => match us, hl with | [_, _, _], _ => rfl,
    f_most := f_most,
    d_most := _,
    F_most := F_most,
    g_most := PySem.W.mg_of X G a_most,
    b_most := F_most.binds (ps := ["machines"]) fun _ _ _ _ _ _ us hl => match us, hl with | [_], _ => rfl,
    f_turns := f_turns,
    d_turns := _,
    F_turns := F_turns,
    g_turns := PySem.W.mg_of X G a_turns,
    b_turns := F_turns.binds (ps := ["ring", "many"]) fun _ _ _ _ _ _ us hl => match us, hl with | [_, _], _ => rfl,
    f_check_few := f_check_few,
    d_check_few := _,
    F_check_few := F_check_few,
    g_check_few := PySem.W.mg_of X G a_check_few,
    b_check_few := F_check_few.binds (ps := ["machines", "many"]) fun _ _ _ _ _ _ us hl => match us, hl with | [_, _], _ => rfl,
    f_all_rings := f_all_rings,
    d_all_rings := _,
    F_all_rings := F_all_rings,
    g_all_rings := PySem.W.mg_of X G a_all_rings,
    b_all_rings := F_all_rings.binds (ps := ["machines", "many"]) fun _ _ _ _ _ _ us hl => match us, hl with | [_, _], _ => rfl,
    f_ways_from := f_ways_from,
    d_ways_from := _,
    F_ways_from := F_ways_from,
    g_ways_from := PySem.W.mg_of X G a_ways_from,
    b_ways_from := F_ways_from.binds (ps := ["ring", "many"]) fun _ _ _ _ _ _ us hl => match us, hl with | [_, _], _ => rfl,
    f_all_ways := f_all_ways,
    d_all_ways := _,
    F_all_ways := F_all_ways,
    g_all_ways := PySem.W.mg_of X G a_all_ways,
    b_all_ways := F_all_ways.binds (ps := ["machines", "many"]) fun _ _ _ _ _ _ us hl => match us, hl with | [_, _], _ => rfl,
    f_all_in := f_all_in,
    d_all_in := _,
    F_all_in := F_all_in,
    g_all_in := PySem.W.mg_of X G a_all_in,
    b_all_in := F_all_in.binds (ps := ["ways", "rings"]) fun _ _ _ _ _ _ us hl => match us, hl with | [_, _], _ => rfl,
    f_longest_steps := f_longest_steps,
    d_longest_steps := _,
    F_longest_steps := F_longest_steps,
    g_longest_steps := PySem.W.mg_of X G a_longest_steps,
    b_longest_steps := F_longest_steps.binds (ps := ["ways"]) fun _ _ _ _ _ _ us hl => match us, hl with | [_], _ => rfl,
    f_longest_order := f_longest_order,
    d_longest_order := _,
    F_longest_order := F_longest_order,
    g_longest_order := PySem.W.mg_of X G a_longest_order,
    b_longest_order := F_longest_order.binds (ps := ["ring", "ways", "steps"]) fun _ _ _ _ _ _ us hl => match us, hl with | [_, _, _], _ => rfl,
    f_way_around := f_way_around,
    d_way_around := _,
    F_way_around := F_way_around,
    g_way_around := PySem.W.mg_of X G a_way_around,
    b_way_around := F_way_around.binds (ps := ["ring", "ways", "steps"]) fun _ _ _ _ _ _ us hl => match us, hl with | [_, _, _], _ => rfl,
    f_worst := f_worst,
    d_worst := _,
    F_worst := F_worst,
    cc_worst := cc_worst,
    P_worst := P_worst,
    hc_worst := rfl,
    TB_worst := TB (cc_worst, P_worst) List.mem_cons_self,
    g_worst := PySem.W.mg_of X G a_worst,
    b_worst := F_worst.binds (ps := ["machines", "many"]) fun _ _ _ _ _ _ us hl => match us, hl with | [_, _], _ => rfl,
    f_never := f_never,
    d_never := _,
    F_never := F_never,
    g_never := PySem.W.mg_of X G a_never,
    b_never := F_never.binds (ps := ["machines", "many"]) fun _ _ _ _ _ _ us hl => match us, hl with | [_, _], _ => rfl,
    f__law_cell_at := f__law_cell_at,
    d__law_cell_at := _,
    F__law_cell_at := F__law_cell_at,
    g__law_cell_at := PySem.W.mg_of X G a__law_cell_at,
    b__law_cell_at := F__law_cell_at.binds (ps := ["_law_script", "_law_k"]) fun _ _ _ _ _ _ us hl => match us, hl with | [_, _], _ => rfl,
    f__law_mixed := f__law_mixed,
    d__law_mixed := _,
    F__law_mixed := F__law_mixed,
    g__law_mixed := PySem.W.mg_of X G a__law_mixed,
    b__law_mixed := F__law_mixed.binds (ps := ["_law_cell", "_law_k"]) fun _ _ _ _ _ _ us hl => match us, hl with | [_, _], _ => rfl,
    f__law_size := f__law_size,
    d__law_size := _,
    F__law_size := F__law_size,
    g__law_size := PySem.W.mg_of X G a__law_size,
    b__law_size := F__law_size.binds (ps := ["_law_script"]) fun _ _ _ _ _ _ us hl => match us, hl with | [_], _ => rfl,
    f__law_many := f__law_many,
    d__law_many := _,
    F__law_many := F__law_many,
    g__law_many := PySem.W.mg_of X G a__law_many,
    b__law_many := F__law_many.binds (ps := ["_law_script", "_law_size_here"]) fun _ _ _ _ _ _ us hl => match us, hl with | [_, _], _ => rfl,
    f__law_ring := f__law_ring,
    d__law_ring := _,
    F__law_ring := F__law_ring,
    g__law_ring := PySem.W.mg_of X G a__law_ring,
    b__law_ring := F__law_ring.binds (ps := ["_law_script", "_law_size_here", "_law_many_here"]) fun _ _ _ _ _ _ us hl => match us, hl with | [_, _, _], _ => rfl,
    f__law_pick := f__law_pick,
    d__law_pick := _,
    F__law_pick := F__law_pick,
    g__law_pick := PySem.W.mg_of X G a__law_pick,
    b__law_pick := F__law_pick.binds (ps := ["_law_free", "_law_script", "_law_k"]) fun _ _ _ _ _ _ us hl => match us, hl with | [_, _, _], _ => rfl,
    f__law_order := f__law_order,
    d__law_order := _,
    F__law_order := F__law_order,
    g__law_order := PySem.W.mg_of X G a__law_order,
    b__law_order := F__law_order.binds (ps := ["_law_ring_here", "_law_many_here", "_law_script"]) fun _ _ _ _ _ _ us hl => match us, hl with | [_, _, _], _ => rfl,
    f__law_ask := f__law_ask,
    d__law_ask := _,
    F__law_ask := F__law_ask,
    g__law_ask := PySem.W.mg_of X G a__law_ask,
    b__law_ask := F__law_ask.binds (ps := ["_law_way", "_law_ring_here", "_law_many_here", "_law_order_here", "_law_numbers"]) fun _ _ _ _ _ _ us hl => match us, hl with | [_, _, _, _, _], _ => rfl,
    f__law_small := f__law_small,
    d__law_small := _,
    F__law_small := F__law_small,
    g__law_small := PySem.W.mg_of X G a__law_small,
    b__law_small := F__law_small.binds (ps := ["_law_way", "_law_script"]) fun _ _ _ _ _ _ us hl => match us, hl with | [_, _], _ => rfl,
    f_law := fa,
    d_law := _,
    F_law := F_law,
    t_FEWEST_MACHINES := t_FEWEST_MACHINES,
    g_FEWEST_MACHINES := PySem.W.mg_of X G v_FEWEST_MACHINES,
    t_MOST_MACHINES := t_MOST_MACHINES,
    g_MOST_MACHINES := PySem.W.mg_of X G v_MOST_MACHINES,
    t_FEWEST_NUMBERS := t_FEWEST_NUMBERS,
    g_FEWEST_NUMBERS := PySem.W.mg_of X G v_FEWEST_NUMBERS,
    t_MOST_NUMBERS := t_MOST_NUMBERS,
    g_MOST_NUMBERS := PySem.W.mg_of X G v_MOST_NUMBERS,
    t_MOST_RINGS := t_MOST_RINGS,
    g_MOST_RINGS := PySem.W.mg_of X G v_MOST_RINGS,
    c_HealError := c_HealError,
    ex_HealError := ⟨PySem.W.mg_of X G x_HealError, xe_HealError, xk_HealError, xb_HealError, xt_HealError, xi_HealError, xv_HealError, ⟨xg_HealError, xh_HealError, xb_HealError, xd_HealError, xc_HealError, yn, yt, xm_HealError⟩⟩,
    c_NoNumbers := c_NoNumbers,
    ex_NoNumbers := ⟨PySem.W.mg_of X G x_NoNumbers, xe_NoNumbers, xk_NoNumbers, xb_NoNumbers, xt_NoNumbers, xi_NoNumbers, xv_NoNumbers, ⟨xg_NoNumbers, xh_NoNumbers, xb_NoNumbers, xd_NoNumbers, xc_NoNumbers, yn, yt, xm_NoNumbers⟩⟩,
    c_NoRing := c_NoRing,
    ex_NoRing := ⟨PySem.W.mg_of X G x_NoRing, xe_NoRing, xk_NoRing, xb_NoRing, xt_NoRing, xi_NoRing, xv_NoRing, ⟨xg_NoRing, xh_NoRing, xb_NoRing, xd_NoRing, xc_NoRing, yn, yt, xm_NoRing⟩⟩,
    c_NoMachine := c_NoMachine,
    ex_NoMachine := ⟨PySem.W.mg_of X G x_NoMachine, xe_NoMachine, xk_NoMachine, xb_NoMachine, xt_NoMachine, xi_NoMachine, xv_NoMachine, ⟨xg_NoMachine, xh_NoMachine, xb_NoMachine, xd_NoMachine, xc_NoMachine, yn, yt, xm_NoMachine⟩⟩,
    c_NotNow := c_NotNow,
    ex_NotNow := ⟨PySem.W.mg_of X G x_NotNow, xe_NotNow, xk_NotNow, xb_NotNow, xt_NotNow, xi_NotNow, xv_NotNow, ⟨xg_NotNow, xh_NotNow, xb_NotNow, xd_NotNow, xc_NotNow, yn, yt, xm_NotNow⟩⟩,
    c_NotHealed := c_NotHealed,
    ex_NotHealed := ⟨PySem.W.mg_of X G x_NotHealed, xe_NotHealed, xk_NotHealed, xb_NotHealed, xt_NotHealed, xi_NotHealed, xv_NotHealed, ⟨xg_NotHealed, xh_NotHealed, xb_NotHealed, xd_NotHealed, xc_NotHealed, yn, yt, xm_NotHealed⟩⟩,
    c_TooGreat := c_TooGreat,
    ex_TooGreat := ⟨PySem.W.mg_of X G x_TooGreat, xe_TooGreat, xk_TooGreat, xb_TooGreat, xt_TooGreat, xi_TooGreat, xv_TooGreat, ⟨xg_TooGreat, xh_TooGreat, xb_TooGreat, xd_TooGreat, xc_TooGreat, yn, yt, xm_TooGreat⟩⟩,
    fam := fam_mk z_NoNumbers_NoNumbers z_NoNumbers_NoRing z_NoNumbers_NoMachine z_NoNumbers_NotNow z_NoNumbers_NotHealed z_NoNumbers_TooGreat z_NoNumbers_HealError z_NoRing_NoNumbers z_NoRing_NoRing z_NoRing_NoMachine z_NoRing_NotNow z_NoRing_NotHealed z_NoRing_TooGreat z_NoRing_HealError z_NoMachine_NoNumbers z_NoMachine_NoRing z_NoMachine_NoMachine z_NoMachine_NotNow z_NoMachine_NotHealed z_NoMachine_TooGreat z_NoMachine_HealError z_NotNow_NoNumbers z_NotNow_NoRing z_NotNow_NoMachine z_NotNow_NotNow z_NotNow_NotHealed z_NotNow_TooGreat z_NotNow_HealError z_NotHealed_NoNumbers z_NotHealed_NoRing z_NotHealed_NoMachine z_NotHealed_NotNow z_NotHealed_NotHealed z_NotHealed_TooGreat z_NotHealed_HealError z_TooGreat_NoNumbers z_TooGreat_NoRing z_TooGreat_NoMachine z_TooGreat_NotNow z_TooGreat_NotHealed z_TooGreat_TooGreat z_TooGreat_HealError,
    n_abs := PySem.W.mg_none_of X G n_abs,
    n_all := PySem.W.mg_none_of X G n_all,
    n_int := PySem.W.mg_none_of X G n_int,
    n_len := PySem.W.mg_none_of X G n_len,
    n_list := PySem.W.mg_none_of X G n_list,
    n_max := PySem.W.mg_none_of X G n_max,
    n_min := PySem.W.mg_none_of X G n_min,
    n_range := PySem.W.mg_none_of X G n_range,
    n_tuple := PySem.W.mg_none_of X G n_tuple }⟩
end HR
open PySem PySem.W PyProof.Rows in
set_option maxRecDepth 100000 in
set_option maxHeartbeats 0 in
theorem PySem.Challenge.cw_healring_k14_lists_told_anew_holds : PySem.Challenge.rw_healring_k14_lists_told_anew.Holds := by
  w_on; o_law; k_head; (case hw => w_witness2)
  k_fill
  refine LamX.walk_ofTs (l := PySem.Challenge.rw_healring_k14_lists_told_anew) (n := 63) (k := 8) (x := "_law_script") (CX := fun _ => L2.CX0) rfl (by decide) rfl ⟨rfl, by decide, by decide⟩ (fun w h Y => PySem.W.km_in_of Y) ?F (fun _ _ _ _ _ z => z)
  case F =>
    intro w mg fa h Y KX G hmg
    have hT8 := PySem.W.km_tabs_of Y
    refine' HR.all_mk KX G hmg (hT8 _ List.mem_cons_self) ?a_check_many ?l_check_many ?e_check_many ?k_check_many ?a_check_machines ?l_check_machines ?e_check_machines ?k_check_machines ?a_check_ring ?l_check_ring ?e_check_ring ?k_check_ring ?a_check_machine ?l_check_machine ?e_check_machine ?k_check_machine ?a_may_step ?l_may_step ?e_may_step ?k_may_step ?a_taken ?l_taken ?e_taken ?k_taken ?a_after ?l_after ?e_after ?k_after ?a_able ?l_able ?e_able ?k_able ?a_stepped ?l_stepped ?e_stepped ?k_stepped ?a_gone ?l_gone ?e_gone ?k_gone ?a_chosen ?l_chosen ?e_chosen ?k_chosen ?a_drawn ?l_drawn ?e_drawn ?k_drawn ?a_counted ?l_counted ?e_counted ?k_counted ?a_traced ?l_traced ?e_traced ?k_traced ?a_check_enough ?l_check_enough ?e_check_enough ?k_check_enough ?a_healed ?l_healed ?e_healed ?k_healed ?a_healing ?l_healing ?e_healing ?k_healing ?a_most ?l_most ?e_most ?k_most ?a_turns ?l_turns ?e_turns ?k_turns ?a_check_few ?l_check_few ?e_check_few ?k_check_few ?a_all_rings ?l_all_rings ?e_all_rings ?k_all_rings ?a_ways_from ?l_ways_from ?e_ways_from ?k_ways_from ?a_all_ways ?l_all_ways ?e_all_ways ?k_all_ways ?a_all_in ?l_all_in ?e_all_in ?k_all_in ?a_longest_steps ?l_longest_steps ?e_longest_steps ?k_longest_steps ?a_longest_order ?l_longest_order ?e_longest_order ?k_longest_order ?a_way_around ?l_way_around ?e_way_around ?k_way_around ?a_worst ?l_worst ?e_worst ?h_worst ?o_worst ?k_worst ?a_never ?l_never ?e_never ?k_never ?a__law_cell_at ?l__law_cell_at ?e__law_cell_at ?k__law_cell_at ?a__law_mixed ?l__law_mixed ?e__law_mixed ?k__law_mixed ?a__law_size ?l__law_size ?e__law_size ?k__law_size ?a__law_many ?l__law_many ?e__law_many ?k__law_many ?a__law_ring ?l__law_ring ?e__law_ring ?k__law_ring ?a__law_pick ?l__law_pick ?e__law_pick ?k__law_pick ?a__law_order ?l__law_order ?e__law_order ?k__law_order ?a__law_ask ?l__law_ask ?e__law_ask ?k__law_ask ?a__law_small ?l__law_small ?e__law_small ?k__law_small ?a_law ?l_law ?e_law ?k_law ?v_FEWEST_MACHINES ?v_MOST_MACHINES ?v_FEWEST_NUMBERS ?v_MOST_NUMBERS ?v_MOST_RINGS ?x_HealError ?xe_HealError ?xk_HealError ?xb_HealError ?xt_HealError ?xi_HealError ?xv_HealError ?xg_HealError ?xh_HealError ?xd_HealError ?xc_HealError ?xm_HealError ?x_NoNumbers ?xe_NoNumbers ?xk_NoNumbers ?xb_NoNumbers ?xt_NoNumbers ?xi_NoNumbers ?xv_NoNumbers ?xg_NoNumbers ?xh_NoNumbers ?xd_NoNumbers ?xc_NoNumbers ?xm_NoNumbers ?x_NoRing ?xe_NoRing ?xk_NoRing ?xb_NoRing ?xt_NoRing ?xi_NoRing ?xv_NoRing ?xg_NoRing ?xh_NoRing ?xd_NoRing ?xc_NoRing ?xm_NoRing ?x_NoMachine ?xe_NoMachine ?xk_NoMachine ?xb_NoMachine ?xt_NoMachine ?xi_NoMachine ?xv_NoMachine ?xg_NoMachine ?xh_NoMachine ?xd_NoMachine ?xc_NoMachine ?xm_NoMachine ?x_NotNow ?xe_NotNow ?xk_NotNow ?xb_NotNow ?xt_NotNow ?xi_NotNow ?xv_NotNow ?xg_NotNow ?xh_NotNow ?xd_NotNow ?xc_NotNow ?xm_NotNow ?x_NotHealed ?xe_NotHealed ?xk_NotHealed ?xb_NotHealed ?xt_NotHealed ?xi_NotHealed ?xv_NotHealed ?xg_NotHealed ?xh_NotHealed ?xd_NotHealed ?xc_NotHealed ?xm_NotHealed ?x_TooGreat ?xe_TooGreat ?xk_TooGreat ?xb_TooGreat ?xt_TooGreat ?xi_TooGreat ?xv_TooGreat ?xg_TooGreat ?xh_TooGreat ?xd_TooGreat ?xc_TooGreat ?xm_TooGreat ?yn ?yt ?z_NoNumbers_HealError ?z_NoNumbers_NoNumbers ?z_NoNumbers_NoRing ?z_NoNumbers_NoMachine ?z_NoNumbers_NotNow ?z_NoNumbers_NotHealed ?z_NoNumbers_TooGreat ?z_NoRing_HealError ?z_NoRing_NoNumbers ?z_NoRing_NoRing ?z_NoRing_NoMachine ?z_NoRing_NotNow ?z_NoRing_NotHealed ?z_NoRing_TooGreat ?z_NoMachine_HealError ?z_NoMachine_NoNumbers ?z_NoMachine_NoRing ?z_NoMachine_NoMachine ?z_NoMachine_NotNow ?z_NoMachine_NotHealed ?z_NoMachine_TooGreat ?z_NotNow_HealError ?z_NotNow_NoNumbers ?z_NotNow_NoRing ?z_NotNow_NoMachine ?z_NotNow_NotNow ?z_NotNow_NotHealed ?z_NotNow_TooGreat ?z_NotHealed_HealError ?z_NotHealed_NoNumbers ?z_NotHealed_NoRing ?z_NotHealed_NoMachine ?z_NotHealed_NotNow ?z_NotHealed_NotHealed ?z_NotHealed_TooGreat ?z_TooGreat_HealError ?z_TooGreat_NoNumbers ?z_TooGreat_NoRing ?z_TooGreat_NoMachine ?z_TooGreat_NotNow ?z_TooGreat_NotHealed ?z_TooGreat_TooGreat ?n_abs ?n_all ?n_int ?n_len ?n_list ?n_max ?n_min ?n_range ?n_tuple
    (case a_check_many => k_is)
    (case l_check_many => k_is)
    (case e_check_many => k_is)
    (case k_check_many => k_is)
    (case a_check_machines => k_is)
    (case l_check_machines => k_is)
    (case e_check_machines => k_is)
    (case k_check_machines => k_is)
    (case a_check_ring => k_is)
    (case l_check_ring => k_is)
    (case e_check_ring => k_is)
    (case k_check_ring => k_is)
    (case a_check_machine => k_is)
    (case l_check_machine => k_is)
    (case e_check_machine => k_is)
    (case k_check_machine => k_is)
    (case a_may_step => k_is)
    (case l_may_step => k_is)
    (case e_may_step => k_is)
    (case k_may_step => k_is)
    (case a_taken => k_is)
    (case l_taken => k_is)
    (case e_taken => k_is)
    (case k_taken => k_is)
    (case a_after => k_is)
    (case l_after => k_is)
    (case e_after => k_is)
    (case k_after => k_is)
    (case a_able => k_is)
    (case l_able => k_is)
    (case e_able => k_is)
    (case k_able => k_is)
    (case a_stepped => k_is)
    (case l_stepped => k_is)
    (case e_stepped => k_is)
    (case k_stepped => k_is)
    (case a_gone => k_is)
    (case l_gone => k_is)
    (case e_gone => k_is)
    (case k_gone => k_is)
    (case a_chosen => k_is)
    (case l_chosen => k_is)
    (case e_chosen => k_is)
    (case k_chosen => k_is)
    (case a_drawn => k_is)
    (case l_drawn => k_is)
    (case e_drawn => k_is)
    (case k_drawn => k_is)
    (case a_counted => k_is)
    (case l_counted => k_is)
    (case e_counted => k_is)
    (case k_counted => k_is)
    (case a_traced => k_is)
    (case l_traced => k_is)
    (case e_traced => k_is)
    (case k_traced => k_is)
    (case a_check_enough => k_is)
    (case l_check_enough => k_is)
    (case e_check_enough => k_is)
    (case k_check_enough => k_is)
    (case a_healed => k_is)
    (case l_healed => k_is)
    (case e_healed => k_is)
    (case k_healed => k_is)
    (case a_healing => k_is)
    (case l_healing => k_is)
    (case e_healing => k_is)
    (case k_healing => k_is)
    (case a_most => k_is)
    (case l_most => k_is)
    (case e_most => k_is)
    (case k_most => k_is)
    (case a_turns => k_is)
    (case l_turns => k_is)
    (case e_turns => k_is)
    (case k_turns => k_is)
    (case a_check_few => k_is)
    (case l_check_few => k_is)
    (case e_check_few => k_is)
    (case k_check_few => k_is)
    (case a_all_rings => k_is)
    (case l_all_rings => k_is)
    (case e_all_rings => k_is)
    (case k_all_rings => k_is)
    (case a_ways_from => k_is)
    (case l_ways_from => k_is)
    (case e_ways_from => k_is)
    (case k_ways_from => k_is)
    (case a_all_ways => k_is)
    (case l_all_ways => k_is)
    (case e_all_ways => k_is)
    (case k_all_ways => k_is)
    (case a_all_in => k_is)
    (case l_all_in => k_is)
    (case e_all_in => k_is)
    (case k_all_in => k_is)
    (case a_longest_steps => k_is)
    (case l_longest_steps => k_is)
    (case e_longest_steps => k_is)
    (case k_longest_steps => k_is)
    (case a_longest_order => k_is)
    (case l_longest_order => k_is)
    (case e_longest_order => k_is)
    (case k_longest_order => k_is)
    (case a_way_around => k_is)
    (case l_way_around => k_is)
    (case e_way_around => k_is)
    (case k_way_around => k_is)
    (case a_worst => k_is)
    (case l_worst => k_is)
    (case e_worst => k_is)
    (case h_worst => kernel_rfl)
    (case o_worst => kernel_rfl)
    (case k_worst => k_is)
    (case a_never => k_is)
    (case l_never => k_is)
    (case e_never => k_is)
    (case k_never => k_is)
    (case a__law_cell_at => k_is)
    (case l__law_cell_at => k_is)
    (case e__law_cell_at => k_is)
    (case k__law_cell_at => k_is)
    (case a__law_mixed => k_is)
    (case l__law_mixed => k_is)
    (case e__law_mixed => k_is)
    (case k__law_mixed => k_is)
    (case a__law_size => k_is)
    (case l__law_size => k_is)
    (case e__law_size => k_is)
    (case k__law_size => k_is)
    (case a__law_many => k_is)
    (case l__law_many => k_is)
    (case e__law_many => k_is)
    (case k__law_many => k_is)
    (case a__law_ring => k_is)
    (case l__law_ring => k_is)
    (case e__law_ring => k_is)
    (case k__law_ring => k_is)
    (case a__law_pick => k_is)
    (case l__law_pick => k_is)
    (case e__law_pick => k_is)
    (case k__law_pick => k_is)
    (case a__law_order => k_is)
    (case l__law_order => k_is)
    (case e__law_order => k_is)
    (case k__law_order => k_is)
    (case a__law_ask => k_is)
    (case l__law_ask => k_is)
    (case e__law_ask => k_is)
    (case k__law_ask => k_is)
    (case a__law_small => k_is)
    (case l__law_small => k_is)
    (case e__law_small => k_is)
    (case k__law_small => k_is)
    (case a_law => k_is)
    (case l_law => k_is)
    (case e_law => k_is)
    (case k_law => k_is)
    (case v_FEWEST_MACHINES => k_is)
    (case v_MOST_MACHINES => k_is)
    (case v_FEWEST_NUMBERS => k_is)
    (case v_MOST_NUMBERS => k_is)
    (case v_MOST_RINGS => k_is)
    (case x_HealError => k_is)
    (case xe_HealError => k_exc)
    (case xk_HealError => k_is)
    (case xb_HealError => k_is)
    (case xt_HealError => k_is)
    (case xi_HealError => k_is)
    (case xv_HealError => k_is)
    (case xg_HealError => k_is)
    (case xh_HealError => k_is)
    (case xd_HealError => k_is)
    (case xc_HealError => k_is)
    (case xm_HealError => k_is)
    (case x_NoNumbers => k_is)
    (case xe_NoNumbers => k_exc)
    (case xk_NoNumbers => k_is)
    (case xb_NoNumbers => k_is)
    (case xt_NoNumbers => k_is)
    (case xi_NoNumbers => k_is)
    (case xv_NoNumbers => k_is)
    (case xg_NoNumbers => k_is)
    (case xh_NoNumbers => k_is)
    (case xd_NoNumbers => k_is)
    (case xc_NoNumbers => k_is)
    (case xm_NoNumbers => k_is)
    (case x_NoRing => k_is)
    (case xe_NoRing => k_exc)
    (case xk_NoRing => k_is)
    (case xb_NoRing => k_is)
    (case xt_NoRing => k_is)
    (case xi_NoRing => k_is)
    (case xv_NoRing => k_is)
    (case xg_NoRing => k_is)
    (case xh_NoRing => k_is)
    (case xd_NoRing => k_is)
    (case xc_NoRing => k_is)
    (case xm_NoRing => k_is)
    (case x_NoMachine => k_is)
    (case xe_NoMachine => k_exc)
    (case xk_NoMachine => k_is)
    (case xb_NoMachine => k_is)
    (case xt_NoMachine => k_is)
    (case xi_NoMachine => k_is)
    (case xv_NoMachine => k_is)
    (case xg_NoMachine => k_is)
    (case xh_NoMachine => k_is)
    (case xd_NoMachine => k_is)
    (case xc_NoMachine => k_is)
    (case xm_NoMachine => k_is)
    (case x_NotNow => k_is)
    (case xe_NotNow => k_exc)
    (case xk_NotNow => k_is)
    (case xb_NotNow => k_is)
    (case xt_NotNow => k_is)
    (case xi_NotNow => k_is)
    (case xv_NotNow => k_is)
    (case xg_NotNow => k_is)
    (case xh_NotNow => k_is)
    (case xd_NotNow => k_is)
    (case xc_NotNow => k_is)
    (case xm_NotNow => k_is)
    (case x_NotHealed => k_is)
    (case xe_NotHealed => k_exc)
    (case xk_NotHealed => k_is)
    (case xb_NotHealed => k_is)
    (case xt_NotHealed => k_is)
    (case xi_NotHealed => k_is)
    (case xv_NotHealed => k_is)
    (case xg_NotHealed => k_is)
    (case xh_NotHealed => k_is)
    (case xd_NotHealed => k_is)
    (case xc_NotHealed => k_is)
    (case xm_NotHealed => k_is)
    (case x_TooGreat => k_is)
    (case xe_TooGreat => k_exc)
    (case xk_TooGreat => k_is)
    (case xb_TooGreat => k_is)
    (case xt_TooGreat => k_is)
    (case xi_TooGreat => k_is)
    (case xv_TooGreat => k_is)
    (case xg_TooGreat => k_is)
    (case xh_TooGreat => k_is)
    (case xd_TooGreat => k_is)
    (case xc_TooGreat => k_is)
    (case xm_TooGreat => k_is)
    (case yn => k_is)
    (case yt => k_is)
    (case z_NoNumbers_HealError => first | k_is | rfl)
    (case z_NoNumbers_NoNumbers => first | k_is | rfl)
    (case z_NoNumbers_NoRing => first | k_is | rfl)
    (case z_NoNumbers_NoMachine => first | k_is | rfl)
    (case z_NoNumbers_NotNow => first | k_is | rfl)
    (case z_NoNumbers_NotHealed => first | k_is | rfl)
    (case z_NoNumbers_TooGreat => first | k_is | rfl)
    (case z_NoRing_HealError => first | k_is | rfl)
    (case z_NoRing_NoNumbers => first | k_is | rfl)
    (case z_NoRing_NoRing => first | k_is | rfl)
    (case z_NoRing_NoMachine => first | k_is | rfl)
    (case z_NoRing_NotNow => first | k_is | rfl)
    (case z_NoRing_NotHealed => first | k_is | rfl)
    (case z_NoRing_TooGreat => first | k_is | rfl)
    (case z_NoMachine_HealError => first | k_is | rfl)
    (case z_NoMachine_NoNumbers => first | k_is | rfl)
    (case z_NoMachine_NoRing => first | k_is | rfl)
    (case z_NoMachine_NoMachine => first | k_is | rfl)
    (case z_NoMachine_NotNow => first | k_is | rfl)
    (case z_NoMachine_NotHealed => first | k_is | rfl)
    (case z_NoMachine_TooGreat => first | k_is | rfl)
    (case z_NotNow_HealError => first | k_is | rfl)
    (case z_NotNow_NoNumbers => first | k_is | rfl)
    (case z_NotNow_NoRing => first | k_is | rfl)
    (case z_NotNow_NoMachine => first | k_is | rfl)
    (case z_NotNow_NotNow => first | k_is | rfl)
    (case z_NotNow_NotHealed => first | k_is | rfl)
    (case z_NotNow_TooGreat => first | k_is | rfl)
    (case z_NotHealed_HealError => first | k_is | rfl)
    (case z_NotHealed_NoNumbers => first | k_is | rfl)
    (case z_NotHealed_NoRing => first | k_is | rfl)
    (case z_NotHealed_NoMachine => first | k_is | rfl)
    (case z_NotHealed_NotNow => first | k_is | rfl)
    (case z_NotHealed_NotHealed => first | k_is | rfl)
    (case z_NotHealed_TooGreat => first | k_is | rfl)
    (case z_TooGreat_HealError => first | k_is | rfl)
    (case z_TooGreat_NoNumbers => first | k_is | rfl)
    (case z_TooGreat_NoRing => first | k_is | rfl)
    (case z_TooGreat_NoMachine => first | k_is | rfl)
    (case z_TooGreat_NotNow => first | k_is | rfl)
    (case z_TooGreat_NotHealed => first | k_is | rfl)
    (case z_TooGreat_TooGreat => first | k_is | rfl)
    (case n_abs => k_is)
    (case n_all => k_is)
    (case n_int => k_is)
    (case n_len => k_is)
    (case n_list => k_is)
    (case n_max => k_is)
    (case n_min => k_is)
    (case n_range => k_is)
    (case n_tuple => k_is)
