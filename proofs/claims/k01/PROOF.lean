import PyProof.Rows.All
import Wide.All
import OpenK.AllK
import Wide.FinOn
import HandS.ForMost
import HandS.ForExc
import HandS.Star
import HandS.TupAny
import HandS.TupMul
import HandS.IsInst
import HandS.HotCalls
import HandS.ExcIs
import HandS.SetFor
import HandS.Codes
import PyProof.ListMulRoad
import PyProof.FactsAll.tuple_2
import HandS.Style
import HandS.Conv
import HandS.SortInts
import PyProof.WalkInts
import PyProof.WalksMore
import PySem.Challenge.RW_healring_k01_able
set_option Elab.async false
set_option linter.all false
set_option maxRecDepth 100000
set_option maxHeartbeats 4000000

/-! Healring: the mathematics, in plain Lean. -/
namespace HR

/-- machine k of the ring r may step -/
def may (r : List Int) (k : Nat) : Bool :=
  if k = 0 then decide (r.getD 0 0 = r.getD (r.length - 1) 0) else !decide (r.getD k 0 = r.getD (k - 1) 0)
def able (r : List Int) : List Nat := (List.range r.length).filter (may r)
def nxt (m : Int) (r : List Int) (k : Nat) : Int := if k = 0 then (r.getD 0 0 + 1) % m else r.getD (k - 1) 0
def step (m : Int) (r : List Int) (k : Nat) : List Int := r.set k (nxt m r k)
def run (m : Int) (r : List Int) (ks : List Nat) : List Int := ks.foldl (step m) r
def legal (m : Int) : List Int → List Nat → Prop
  | _, [] => True
  | r, k :: ks => k ∈ able r ∧ legal m (step m r k) ks

structure Good (n : Nat) (m : Int) (r : List Int) : Prop where
  len : r.length = n
  n2 : 2 ≤ n
  n12 : n ≤ 12
  m2 : 2 ≤ m
  m100 : m ≤ 100
  val : ∀ x ∈ r, 0 ≤ x ∧ x < m

theorem mem_able {r : List Int} {k : Nat} : k ∈ able r ↔ k < r.length ∧ may r k = true := by
  unfold able
  rw [List.mem_filter, List.mem_range]
theorem may_zero {r : List Int} : may r 0 = true ↔ r.getD 0 0 = r.getD (r.length - 1) 0 := by
  unfold may
  rw [if_pos rfl, decide_eq_true_iff]
theorem may_pos {r : List Int} {k : Nat} (h : k ≠ 0) : may r k = true ↔ r.getD k 0 ≠ r.getD (k - 1) 0 := by
  unfold may
  rw [if_neg h]
  simp
theorem step_len {m : Int} {r : List Int} {k : Nat} : (step m r k).length = r.length := by
  unfold step
  rw [List.length_set]
theorem step_self {m : Int} {r : List Int} {k : Nat} (h : k < r.length) : (step m r k).getD k 0 = nxt m r k := by
  unfold step
  rw [List.getD_eq_getElem?_getD, List.getElem?_set_self h]
  rfl
theorem step_ne {m : Int} {r : List Int} {k i : Nat} (h : k ≠ i) : (step m r k).getD i 0 = r.getD i 0 := by
  unfold step
  rw [List.getD_eq_getElem?_getD, List.getD_eq_getElem?_getD, List.getElem?_set_ne h]
theorem getD_mem {r : List Int} {k : Nat} (h : k < r.length) : r.getD k 0 ∈ r := by
  rw [List.getD_eq_getElem?_getD, List.getElem?_eq_getElem h]
  exact List.getElem_mem h
theorem mem_getD {r : List Int} {x : Int} (h : x ∈ r) : ∃ k, k < r.length ∧ r.getD k 0 = x := by
  obtain ⟨k, hk, e⟩ := List.mem_iff_getElem.mp h
  refine ⟨k, hk, ?_⟩
  rw [List.getD_eq_getElem?_getD, List.getElem?_eq_getElem hk, e]
  rfl
theorem Good.at {n : Nat} {m : Int} {r : List Int} (g : Good n m r) {k : Nat} (h : k < n) : 0 ≤ r.getD k 0 ∧ r.getD k 0 < m :=
  g.val _ (getD_mem (by rw [g.len]; exact h))
theorem Good.step {n : Nat} {m : Int} {r : List Int} (g : Good n m r) (k : Nat) : Good n m (step m r k) := by
  refine ⟨step_len.trans g.len, g.n2, g.n12, g.m2, g.m100, fun x hx => ?_⟩
  have m2 := g.m2
  have n2 := g.n2
  have hl : (HR.step m r k).length = n := step_len.trans g.len
  obtain ⟨i, hi, e⟩ := mem_getD hx
  rw [hl] at hi
  subst e
  by_cases hk : k = i
  · subst hk
    rw [step_self (by rw [g.len]; exact hi)]
    unfold nxt
    split
    · exact ⟨Int.emod_nonneg _ (by omega), Int.emod_lt_of_pos _ (by omega)⟩
    · exact g.at (by omega)
  · rw [step_ne hk]
    exact g.at hi
theorem run_nil {m : Int} {r : List Int} : run m r [] = r := rfl
theorem run_cons {m : Int} {r : List Int} {k : Nat} {ks : List Nat} : run m r (k :: ks) = run m (step m r k) ks := rfl
theorem run_append {m : Int} {r : List Int} {ks ls : List Nat} : run m r (ks ++ ls) = run m (run m r ks) ls := by
  unfold run
  rw [List.foldl_append]
theorem run_snoc {m : Int} {r : List Int} {ks : List Nat} {k : Nat} : run m r (ks ++ [k]) = step m (run m r ks) k := by
  rw [run_append]
  rfl
theorem run_len {m : Int} : ∀ {ks : List Nat} {r : List Int}, (run m r ks).length = r.length
  | [], _ => rfl
  | k :: ks, r => by rw [run_cons, run_len (ks := ks), step_len]
theorem Good.run {n : Nat} {m : Int} : ∀ {ks : List Nat} {r : List Int}, Good n m r → Good n m (run m r ks)
  | [], _, g => g
  | k :: ks, r, g => by
    rw [run_cons]
    exact Good.run (ks := ks) (g.step k)
theorem legal_append {m : Int} : ∀ {ks ls : List Nat} {r : List Int}, legal m r (ks ++ ls) ↔ legal m r ks ∧ legal m (run m r ks) ls
  | [], ls, r => by
    show legal m r ls ↔ True ∧ legal m r ls
    exact ⟨fun h => ⟨trivial, h⟩, fun h => h.2⟩
  | k :: ks, ls, r => by
    show (k ∈ able r ∧ legal m (step m r k) (ks ++ ls)) ↔ (k ∈ able r ∧ legal m (step m r k) ks) ∧ legal m (run m (step m r k) ks) ls
    rw [legal_append (ks := ks)]
    exact ⟨fun ⟨a, b, c⟩ => ⟨⟨a, b⟩, c⟩, fun ⟨⟨a, b⟩, c⟩ => ⟨a, b, c⟩⟩
theorem legal_snoc {m : Int} {ks : List Nat} {k : Nat} {r : List Int} : legal m r (ks ++ [k]) ↔ legal m r ks ∧ k ∈ able (run m r ks) := by
  rw [legal_append]
  exact ⟨fun ⟨a, b, _⟩ => ⟨a, b⟩, fun ⟨a, b⟩ => ⟨a, b, trivial⟩⟩
/-- prefix induction along a legal order -/
theorem snoc_ind {P : List Nat → Prop} (h0 : P []) (hs : ∀ ks k, P ks → P (ks ++ [k])) (ks : List Nat) : P ks := by
  have aux : ∀ n, ∀ ks : List Nat, ks.length = n → P ks := by
    intro n
    induction n with
    | zero =>
      intro ks h
      have e : ks = [] := List.eq_nil_of_length_eq_zero h
      subst e
      exact h0
    | succ n ih =>
      intro ks h
      have hne : ks ≠ [] := fun e => by
        subst e
        cases h
      have e := List.dropLast_concat_getLast hne
      rw [← e]
      exact hs _ _ (ih _ (by rw [List.length_dropLast, h]; rfl))
  exact aux _ ks rfl

/-! ### some machine may always step -/
theorem all_eq_of_none {r : List Int} (h : ∀ k, 0 < k → k < r.length → may r k = false) : ∀ k, k < r.length → r.getD k 0 = r.getD 0 0
  | 0, _ => rfl
  | k + 1, hk => by
    have ih := all_eq_of_none h k (by omega)
    have e : r.getD (k + 1) 0 = r.getD k 0 := by
      cases Classical.em (r.getD (k + 1) 0 = r.getD k 0) with
      | inl q => exact q
      | inr q =>
        have z := (may_pos (r := r) (k := k + 1) (by omega)).mpr q
        rw [h (k + 1) (by omega) hk] at z
        cases z
    exact e.trans ih
theorem able_ne {r : List Int} (h : 0 < r.length) : able r ≠ [] := by
  intro e
  have no : ∀ k, k < r.length → may r k = false := fun k hk => by
    cases q : may r k with
    | false => rfl
    | true =>
      have : k ∈ able r := mem_able.mpr ⟨hk, q⟩
      rw [e] at this
      cases this
  have all := all_eq_of_none fun k _ hk => no k hk
  have z := no 0 h
  have z' : may r 0 = true := may_zero.mpr (all (r.length - 1) (by omega)).symm
  rw [z] at z'
  cases z'
theorem able_pos {r : List Int} (h : 0 < r.length) : 0 < (able r).length := by
  cases e : able r with
  | nil => exact absurd e (able_ne h)
  | cons a l => exact Nat.succ_pos _
theorem able_lt {r : List Int} {k : Nat} (h : k ∈ able r) : k < r.length := (mem_able.mp h).1
theorem able_nodup (r : List Int) : (able r).Nodup := List.Pairwise.filter _ List.nodup_range

/-! ### point 7: none but machine 0 steps more than once more often than the one before it -/
theorem counts_inv {m : Int} {r : List Int} (ks : List Nat) (h : legal m r ks) (k : Nat) (hk : 0 < k) (hn : k < r.length) :
    ks.count k + (if (run m r ks).getD k 0 ≠ (run m r ks).getD (k - 1) 0 then 1 else 0) ≤ ks.count (k - 1) + 1 := by
  revert h
  refine snoc_ind (P := fun ks => legal m r ks → ks.count k + (if (run m r ks).getD k 0 ≠ (run m r ks).getD (k - 1) 0 then 1 else 0) ≤ ks.count (k - 1) + 1) ?_ ?_ ks
  · intro _
    simp only [List.count_nil]
    split <;> omega
  · intro ks j ih hl
    obtain ⟨hl, hj⟩ := legal_snoc.mp hl
    have ih := ih hl
    obtain ⟨hjl, hjm⟩ := mem_able.mp hj
    rw [run_snoc, List.count_append, List.count_append]
    have hrl : (run m r ks).length = r.length := run_len
    by_cases e1 : j = k
    · subst e1
      have c1 : List.count j [j] = 1 := by simp
      have c2 : List.count (j - 1) [j] = 0 := by
        rw [List.count_singleton]
        have : (j == j - 1) = false := by simp; omega
        rw [this]; rfl
      rw [c1, c2, step_self hjl, step_ne (by omega)]
      have d := (may_pos (by omega)).mp hjm
      rw [if_pos d] at ih
      have e : nxt m (run m r ks) j = (run m r ks).getD (j - 1) 0 := by
        unfold nxt
        rw [if_neg (by omega)]
      rw [if_neg (by rw [e]; simp)]
      omega
    · have c1 : List.count k [j] = 0 := by
        rw [List.count_singleton]
        have : (j == k) = false := by simpa using e1
        rw [this]; rfl
      rw [c1]
      by_cases e2 : j = k - 1
      · subst e2
        have c2 : List.count (k - 1) [k - 1] = 1 := by simp
        rw [c2]
        have : (if (step m (run m r ks) (k - 1)).getD k 0 ≠ (step m (run m r ks) (k - 1)).getD (k - 1) 0 then 1 else 0) ≤ 1 := by split <;> omega
        have q : ks.count k ≤ ks.count (k - 1) + 1 := by omega
        omega
      · have c2 : List.count (k - 1) [j] = 0 := by
          rw [List.count_singleton]
          have : (j == k - 1) = false := by simpa using e2
          rw [this]; rfl
        rw [c2, step_ne e1, step_ne e2]
        omega
theorem counts_le {m : Int} {r : List Int} {ks : List Nat} (h : legal m r ks) {k : Nat} (hk : 0 < k) (hn : k < r.length) : ks.count k ≤ ks.count (k - 1) + 1 := by
  have := counts_inv ks h k hk hn
  omega
theorem counts_zero {m : Int} {r : List Int} {ks : List Nat} (h : legal m r ks) : ∀ k, k < r.length → ks.count k ≤ ks.count 0 + k
  | 0, _ => by omega
  | k + 1, hk => by
    have ih := counts_zero h k (by omega)
    have := counts_le h (k := k + 1) (by omega) hk
    have e : k + 1 - 1 = k := rfl
    rw [e] at this
    omega

/-! ### how long an order is -/
def tri : Nat → Nat → Nat
  | _, 0 => 0
  | c, n + 1 => tri c n + (c + n)
theorem tri_eq (c : Nat) : ∀ n, 2 * tri c n + n = 2 * c * n + n * n
  | 0 => by simp [tri]
  | n + 1 => by
    have ih := tri_eq c n
    show 2 * (tri c n + (c + n)) + (n + 1) = _
    have e : (n + 1) * (n + 1) = n * n + 2 * n + 1 := by
      rw [Nat.mul_add, Nat.add_mul]; omega
    have e2 : 2 * c * (n + 1) = 2 * c * n + 2 * c := by rw [Nat.mul_add, Nat.mul_one]
    rw [e, e2]
    omega
/-- an order of machines below n is as long as their counts together -/
theorem len_counts : ∀ (n : Nat) (ks : List Nat), (∀ k ∈ ks, k < n) → ks.length = ((List.range n).map fun k => ks.count k).sum
  | n, [], _ => by
    have : ((List.range n).map fun k => ([] : List Nat).count k) = List.replicate n 0 := by
      apply List.ext_getElem
      · simp
      · intro i h1 h2
        simp
    rw [this]
    induction n with
    | zero => rfl
    | succ n ih => rw [List.replicate_succ, List.sum_cons]; simp
  | n, k :: ks, h => by
    have ih := len_counts n ks fun j hj => h j (List.mem_cons_of_mem _ hj)
    have hk := h k List.mem_cons_self
    rw [List.length_cons, ih]
    have e : ∀ (l : List Nat), l.Nodup → (l.map fun j => (k :: ks).count j).sum = (l.map fun j => ks.count j).sum + (if k ∈ l then 1 else 0) := by
      intro l
      induction l with
      | nil => intro _; rfl
      | cons a l il =>
        intro nd
        obtain ⟨na, nl⟩ := List.nodup_cons.mp nd
        rw [List.map_cons, List.sum_cons, List.map_cons, List.sum_cons, il nl]
        by_cases q : k = a
        · subst q
          rw [if_neg na, if_pos List.mem_cons_self, List.count_cons_self]
          omega
        · rw [List.count_cons_of_ne q]
          by_cases w : k ∈ l
          · rw [if_pos w, if_pos (List.mem_cons_of_mem _ w)]
            omega
          · have : k ∉ a :: l := fun z => (List.mem_cons.mp z).elim q w
            rw [if_neg w, if_neg this]
            omega
    rw [e _ List.nodup_range, if_pos (List.mem_range.mpr hk)]
theorem sum_le_tri (c : Nat) (f : Nat → Nat) : ∀ n, (∀ k, k < n → f k ≤ c + k) → ((List.range n).map f).sum ≤ tri c n
  | 0, _ => by simp [tri]
  | n + 1, h => by
    have ih := sum_le_tri c f n fun k hk => h k (by omega)
    have q := h n (by omega)
    rw [List.range_succ, List.map_append, List.sum_append]
    show _ ≤ tri c n + (c + n)
    simp only [List.map_cons, List.map_nil, List.sum_cons, List.sum_nil]
    omega
theorem legal_lt {m : Int} : ∀ {ks : List Nat} {r : List Int}, legal m r ks → ∀ k ∈ ks, k < r.length
  | [], _, _, k, hk => nomatch hk
  | j :: ks, r, ⟨hj, hl⟩, k, hk => by
    rcases List.mem_cons.mp hk with e | e
    · subst e
      exact able_lt hj
    · have := legal_lt hl k e
      rw [step_len] at this
      exact this

/-! ### point 10: a number that no other machine holds -/
theorem erase_sub {α : Type} [DecidableEq α] : ∀ {l l' : List α}, l.Nodup → (∀ x ∈ l, x ∈ l') → l.length ≤ l'.length
  | [], _, _, _ => Nat.zero_le _
  | a :: l, l', nd, h => by
    obtain ⟨na, nl⟩ := List.nodup_cons.mp nd
    have ha := h a List.mem_cons_self
    have := erase_sub (l := l) (l' := l'.erase a) nl fun x hx => by
      have hx' := h x (List.mem_cons_of_mem _ hx)
      have : x ≠ a := fun e => na (e ▸ hx)
      exact (List.mem_erase_of_ne this).mpr hx'
    rw [List.length_erase_of_mem ha] at this
    have hp : 0 < l'.length := List.length_pos_of_mem ha
    rw [List.length_cons]
    omega
theorem emod_inj {m a : Int} {i j : Nat} (hi : (i : Int) < m) (hj : (j : Int) < m) (e : (a + i) % m = (a + j) % m) : i = j := by
  have h : ((a + i) - (a + j)) % m = 0 := Int.emod_eq_emod_iff_emod_sub_eq_zero.mp e
  have e2 : (a + (i : Int)) - (a + j) = (i : Int) - j := by omega
  rw [e2] at h
  have d : m ∣ (i : Int) - j := Int.dvd_of_emod_eq_zero h
  obtain ⟨q, hq⟩ := d
  by_cases h0 : q = 0
  · subst h0
    simp at hq
    omega
  · exfalso
    have mp : 0 < m := by omega
    by_cases hp : 0 < q
    · have : m * 1 ≤ m * q := Int.mul_le_mul_of_nonneg_left (by omega) (by omega)
      omega
    · have : m * q ≤ m * (-1) := Int.mul_le_mul_of_nonneg_left (by omega) (by omega)
      omega
theorem fresh {n : Nat} {m : Int} {r : List Int} (g : Good n m r) (hm : (n : Int) ≤ m) : ∃ j, j < n ∧ ∀ i, 0 < i → i < n → r.getD i 0 ≠ (r.getD 0 0 + (j : Nat)) % m := by
  have n2 := g.n2
  cases Classical.em (∃ j, j < n ∧ ∀ i, 0 < i → i < n → r.getD i 0 ≠ (r.getD 0 0 + (j : Nat)) % m) with
  | inl h => exact h
  | inr h =>
    exfalso
    have all : ∀ x ∈ (List.range n).map (fun j : Nat => (r.getD 0 0 + (j : Int)) % m), x ∈ r.tail := by
      intro x hx
      obtain ⟨j, hj, e⟩ := List.mem_map.mp hx
      have hj := List.mem_range.mp hj
      cases Classical.em (∃ i, 0 < i ∧ i < n ∧ r.getD i 0 = (r.getD 0 0 + (j : Nat)) % m) with
      | inl q =>
        obtain ⟨i, h0, h1, e1⟩ := q
        rw [← e]
        show (r.getD 0 0 + (j : Int)) % m ∈ r.tail
        rw [← e1]
        cases r with
        | nil =>
          have := g.len
          simp at this
          omega
        | cons a t =>
          obtain ⟨i', rfl⟩ : ∃ i', i = i' + 1 := ⟨i - 1, by omega⟩
          have hl := g.len
          rw [List.length_cons] at hl
          show (a :: t).getD (i' + 1) 0 ∈ t
          have : (a :: t).getD (i' + 1) 0 = t.getD i' 0 := rfl
          rw [this]
          exact getD_mem (by omega)
      | inr q => exact absurd ⟨j, hj, fun i h0 h1 e1 => q ⟨i, h0, h1, e1⟩⟩ h
    have nd : ((List.range n).map (fun j : Nat => (r.getD 0 0 + (j : Int)) % m)).Nodup := by
      rw [List.nodup_iff_pairwise_ne, List.pairwise_map]
      refine List.Pairwise.imp_of_mem ?_ List.nodup_range
      intro a b ha hb ne e
      have ha := List.mem_range.mp ha
      have hb := List.mem_range.mp hb
      exact ne (emod_inj (by omega) (by omega) e)
    have := erase_sub nd all
    rw [List.length_map, List.length_range, List.length_tail, g.len] at this
    omega
/-- the way of the fresh number v = a + j: c steps of machine 0 so far -/
structure Way (n : Nat) (m : Int) (a : Int) (j c : Nat) (r : List Int) : Prop where
  le : c ≤ j
  x0 : r.getD 0 0 = (a + (c : Nat)) % m
  st : (c < j ∧ ∀ i, 0 < i → i < n → r.getD i 0 ≠ (a + (j : Nat)) % m) ∨
    (c = j ∧ ∃ p, 1 ≤ p ∧ p ≤ n ∧ ∀ i, i < n → (r.getD i 0 = (a + (j : Nat)) % m ↔ i < p))
theorem healed_eq {n : Nat} {r : List Int} {v : Int} (hl : r.length = n) (n2 : 2 ≤ n) (h : ∀ i, i < n → r.getD i 0 = v) : able r = [0] := by
  have a0 : may r 0 = true := may_zero.mpr (by rw [hl, h 0 (by omega), h (n - 1) (by omega)])
  unfold able
  rw [hl]
  obtain ⟨n', rfl⟩ : ∃ n', n = n' + 1 := ⟨n - 1, by omega⟩
  rw [List.range_succ_eq_map, List.filter_cons, if_pos a0]
  congr 1
  rw [List.filter_eq_nil_iff]
  intro k hk
  obtain ⟨i, hi, rfl⟩ := List.mem_map.mp hk
  have hi := List.mem_range.mp hi
  intro q
  have := (may_pos (by omega)).mp q
  apply this
  rw [h (i + 1) (by omega)]
  exact (h i (by omega)).symm
theorem Way.step {n : Nat} {m a : Int} {j c : Nat} {r : List Int} (w : Way n m a j c r) (hl : r.length = n) (n2 : 2 ≤ n) (hj : j < n) (hm : (n : Int) ≤ m) {k : Nat} (hk : k ∈ able r) (un : (able r).length ≠ 1) :
    Way n m a j (if k = 0 then c + 1 else c) (step m r k) := by
  obtain ⟨hkl, hkm⟩ := mem_able.mp hk
  rw [hl] at hkl
  have hkr : k < r.length := by omega
  by_cases k0 : k = 0
  · subst k0
    rw [if_pos rfl]
    have last := may_zero.mp hkm
    rw [hl] at last
    have nx : nxt m r 0 = (a + ((c + 1 : Nat) : Int)) % m := by
      unfold nxt
      rw [if_pos rfl, w.x0, Int.emod_add_emod]
      congr 1
      push_cast
      omega
    rcases w.st with ⟨lt, oth⟩ | ⟨e, p, p1, pn, hp⟩
    · refine ⟨by omega, by rw [step_self hkr, nx], ?_⟩
      by_cases e : c + 1 = j
      · refine .inr ⟨e, 1, Nat.le_refl _, by omega, fun i hi => ?_⟩
        by_cases i0 : i = 0
        · subst i0
          rw [step_self hkr, nx, e]
          simp
        · rw [step_ne (by omega)]
          refine ⟨fun q => absurd q (oth i (by omega) hi), fun q => absurd q (by omega)⟩
      · exact .inl ⟨by omega, fun i h0 hi => by rw [step_ne (by omega)]; exact oth i h0 hi⟩
    · exfalso
      have h0 : r.getD 0 0 = (a + (j : Nat)) % m := (hp 0 (by omega)).mpr (by omega)
      have hlast := (hp (n - 1) (by omega)).mp (by rw [← last]; exact h0)
      have all : ∀ i, i < n → r.getD i 0 = (a + (j : Nat)) % m := fun i hi => (hp i hi).mpr (by omega)
      exact un (by rw [healed_eq hl n2 all]; rfl)
  · rw [if_neg k0]
    have nx : nxt m r k = r.getD (k - 1) 0 := by
      unfold nxt
      rw [if_neg k0]
    have df := (may_pos k0).mp hkm
    refine ⟨w.le, by rw [step_ne k0]; exact w.x0, ?_⟩
    rcases w.st with ⟨lt, oth⟩ | ⟨e, p, p1, pn, hp⟩
    · refine .inl ⟨lt, fun i h0 hi => ?_⟩
      by_cases e : k = i
      · subst e
        rw [step_self hkr, nx]
        by_cases k1 : k = 1
        · subst k1
          show r.getD 0 0 ≠ _
          rw [w.x0]
          intro q
          have := emod_inj (m := m) (a := a) (i := c) (j := j) (by omega) (by omega) q
          omega
        · exact oth (k - 1) (by omega) (by omega)
      · rw [step_ne e]
        exact oth i h0 hi
    · refine .inr ⟨e, ?_⟩
      have hkp : ¬ k < p := fun q => by
        apply df
        rw [(hp k hkl).mpr q]
        exact ((hp (k - 1) (by omega)).mpr (by omega)).symm
      by_cases kp : k = p
      · subst kp
        refine ⟨k + 1, by omega, by omega, fun i hi => ?_⟩
        by_cases q : k = i
        · subst q
          rw [step_self hkr, nx]
          exact ⟨fun _ => by omega, fun _ => (hp (k - 1) (by omega)).mpr (by omega)⟩
        · rw [step_ne q]
          exact (hp i hi).trans ⟨fun z => by omega, fun z => by omega⟩
      · refine ⟨p, p1, pn, fun i hi => ?_⟩
        by_cases q : k = i
        · subst q
          rw [step_self hkr, nx]
          exact (hp (k - 1) (by omega)).trans ⟨fun z => by omega, fun z => by omega⟩
        · rw [step_ne q]
          exact hp i hi
/-- no ring ahead of the end of the order is healed -/
def sick (m : Int) : List Int → List Nat → Prop
  | _, [] => True
  | r, k :: ks => (able r).length ≠ 1 ∧ sick m (step m r k) ks
theorem sick_append {m : Int} : ∀ {ks ls : List Nat} {r : List Int}, sick m r (ks ++ ls) ↔ sick m r ks ∧ sick m (run m r ks) ls
  | [], ls, r => by
    show sick m r ls ↔ True ∧ sick m r ls
    exact ⟨fun h => ⟨trivial, h⟩, fun h => h.2⟩
  | k :: ks, ls, r => by
    show ((able r).length ≠ 1 ∧ sick m (step m r k) (ks ++ ls)) ↔ ((able r).length ≠ 1 ∧ sick m (step m r k) ks) ∧ sick m (run m (step m r k) ks) ls
    rw [sick_append (ks := ks)]
    exact ⟨fun ⟨a, b, c⟩ => ⟨⟨a, b⟩, c⟩, fun ⟨⟨a, b⟩, c⟩ => ⟨a, b, c⟩⟩
theorem sick_snoc {m : Int} {ks : List Nat} {k : Nat} {r : List Int} : sick m r (ks ++ [k]) ↔ sick m r ks ∧ (able (run m r ks)).length ≠ 1 := by
  rw [sick_append]
  exact ⟨fun ⟨a, b, _⟩ => ⟨a, b⟩, fun ⟨a, b⟩ => ⟨a, b, trivial⟩⟩
theorem way_all {n : Nat} {m : Int} {r : List Int} (g : Good n m r) (hm : (n : Int) ≤ m) {j : Nat} (hj : j < n) (hf : ∀ i, 0 < i → i < n → r.getD i 0 ≠ (r.getD 0 0 + (j : Nat)) % m) (ks : List Nat) :
    legal m r ks → sick m r ks → Way n m (r.getD 0 0) j (ks.count 0) (run m r ks) := by
  refine snoc_ind (P := fun ks => legal m r ks → sick m r ks → Way n m (r.getD 0 0) j (ks.count 0) (run m r ks)) ?_ ?_ ks
  · intro _ _
    have n2 := g.n2
    have h0 := g.at (k := 0) (by omega)
    refine ⟨Nat.zero_le _, ?_, ?_⟩
    · show r.getD 0 0 = _
      rw [List.count_nil]
      simp only [Int.ofNat_zero, Int.natCast_zero, Int.add_zero]
      exact (Int.emod_eq_of_lt h0.1 h0.2).symm
    · rw [List.count_nil]
      by_cases j0 : j = 0
      · subst j0
        refine .inr ⟨rfl, 1, Nat.le_refl _, by omega, fun i hi => ?_⟩
        by_cases i0 : i = 0
        · subst i0
          refine ⟨fun _ => by omega, fun _ => ?_⟩
          show r.getD 0 0 = _
          simp only [Int.ofNat_zero, Int.natCast_zero, Int.add_zero]
          exact (Int.emod_eq_of_lt h0.1 h0.2).symm
        · refine ⟨fun q => absurd q (hf i (by omega) hi), fun q => absurd q (by omega)⟩
      · exact .inl ⟨by omega, fun i h1 h2 => hf i h1 h2⟩
  · intro ks k ih hl hs
    obtain ⟨hl, hk⟩ := legal_snoc.mp hl
    obtain ⟨hs, un⟩ := sick_snoc.mp hs
    have w := (ih hl hs).step (run_len.trans g.len) g.n2 hj hm hk un
    rw [run_snoc, List.count_append]
    have e : ks.count 0 + List.count 0 [k] = if k = 0 then ks.count 0 + 1 else ks.count 0 := by
      rw [List.count_singleton]
      by_cases k0 : k = 0
      · subst k0
        simp
      · have : (k == 0) = false := by simpa using k0
        rw [this, if_neg k0]
        rfl
    rw [e]
    exact w
theorem zero_lt {n : Nat} {m : Int} {r : List Int} (g : Good n m r) (hm : (n : Int) ≤ m) {ks : List Nat} (hl : legal m r ks) (hs : sick m r ks) : ks.count 0 < n := by
  obtain ⟨j, hj, hf⟩ := fresh g hm
  have w := way_all g hm hj hf ks hl hs
  have := w.le
  omega
/-- point 10 -/
theorem most_le {n : Nat} {m : Int} {r : List Int} (g : Good n m r) (hm : (n : Int) ≤ m) {ks : List Nat} (hl : legal m r ks) (hs : sick m r ks) : 2 * ks.length ≤ 3 * n * (n - 1) := by
  have c0 := zero_lt g hm hl hs
  have n2 := g.n2
  have lt : ∀ k ∈ ks, k < n := fun k hk => by
    have := legal_lt hl k hk
    rw [g.len] at this
    exact this
  have e := len_counts n ks lt
  have b := sum_le_tri (n - 1) (fun k => ks.count k) n fun k hk => by
    have := counts_zero hl k (by rw [g.len]; exact hk)
    omega
  rw [← e] at b
  have t := tri_eq (n - 1) n
  obtain ⟨p, rfl⟩ : ∃ p, n = p + 1 := ⟨n - 1, by omega⟩
  simp only [Nat.add_sub_cancel] at *
  have e1 : 2 * p * (p + 1) = 2 * (p * p) + 2 * p := by rw [Nat.mul_add, Nat.mul_assoc]; omega
  have e2 : (p + 1) * (p + 1) = p * p + 2 * p + 1 := by rw [Nat.mul_add, Nat.add_mul]; omega
  have e3 : 3 * (p + 1) * p = 3 * (p * p) + 3 * p := by rw [Nat.mul_add, Nat.add_mul, Nat.mul_assoc]
  rw [e1, e2] at t
  rw [e3]
  omega

/-! ### point 11: from a healed ring on the machines step in turn -/
def succ (n k : Nat) : Nat := if k + 1 = n then 0 else k + 1
theorem eq_up {r : List Int} {lo : Nat} : ∀ d, (∀ k, lo < k → k ≤ lo + d → r.getD k 0 = r.getD (k - 1) 0) → r.getD (lo + d) 0 = r.getD lo 0
  | 0, _ => rfl
  | d + 1, h => by
    have ih := eq_up (r := r) (lo := lo) d fun k h1 h2 => h k h1 (by omega)
    have q := h (lo + d + 1) (by omega) (by omega)
    show r.getD (lo + d + 1) 0 = _
    rw [q]
    exact ih
theorem eq_of_not {r : List Int} {k : Nat} (h : k ≠ 0) (hn : may r k ≠ true) : r.getD k 0 = r.getD (k - 1) 0 := by
  cases Classical.em (r.getD k 0 = r.getD (k - 1) 0) with
  | inl q => exact q
  | inr q => exact absurd ((may_pos h).mpr q) hn
theorem one_able {l : List Nat} {k : Nat} (nd : l.Nodup) (h : ∀ i, i ∈ l ↔ i = k) : l = [k] := by
  cases l with
  | nil =>
    have := (h k).mpr rfl
    cases this
  | cons a t =>
    have ea : a = k := (h a).mp List.mem_cons_self
    subst ea
    cases t with
    | nil => rfl
    | cons b t =>
      have eb : b = a := (h b).mp (List.mem_cons_of_mem _ List.mem_cons_self)
      subst eb
      obtain ⟨na, _⟩ := List.nodup_cons.mp nd
      exact absurd List.mem_cons_self na
theorem turn_next {n : Nat} {m : Int} {r : List Int} (g : Good n m r) {k : Nat} (h : able r = [k]) : able (step m r k) = [succ n k] := by
  have n2 := g.n2
  have hl := g.len
  have m2 := g.m2
  have hk : k ∈ able r := by rw [h]; exact List.mem_cons_self
  obtain ⟨hkl, hkm⟩ := mem_able.mp hk
  have only : ∀ i, i < n → i ≠ k → may r i ≠ true := fun i hi ne q => by
    have : i ∈ able r := mem_able.mpr ⟨by omega, q⟩
    rw [h] at this
    exact ne (List.mem_singleton.mp this)
  refine one_able (able_nodup _) fun i => ?_
  rw [mem_able, step_len, hl]
  have sl : (step m r k).length = n := step_len.trans hl
  by_cases k0 : k = 0
  · subst k0
    -- all numbers are alike
    have eq : ∀ i, i < n → r.getD i 0 = r.getD 0 0 := fun i hi => by
      have := eq_up (r := r) (lo := 0) i fun j h1 h2 => eq_of_not (by omega) (only j (by omega) (by omega))
      rw [Nat.zero_add] at this
      exact this
    have nx : nxt m r 0 = (r.getD 0 0 + 1) % m := by unfold nxt; rw [if_pos rfl]
    have a0 := g.at (k := 0) (by omega)
    have dn : (r.getD 0 0 + 1) % m ≠ r.getD 0 0 := fun e => by
      by_cases q : r.getD 0 0 + 1 = m
      · rw [q, Int.emod_self] at e
        omega
      · rw [Int.emod_eq_of_lt (by omega) (by omega)] at e
        omega
    have e1 : succ n 0 = 1 := by unfold succ; rw [if_neg (by omega)]
    rw [e1]
    constructor
    · rintro ⟨hi, hm⟩
      by_cases i0 : i = 0
      · subst i0
        exfalso
        have := may_zero.mp hm
        rw [sl, step_self (by omega), step_ne (by omega), nx, eq (n - 1) (by omega)] at this
        exact dn this
      · by_cases i1 : i = 1
        · exact i1
        · exfalso
          have := (may_pos i0).mp hm
          rw [step_ne (by omega), step_ne (by omega), eq i hi, eq (i - 1) (by omega)] at this
          exact this rfl
    · intro e
      subst e
      refine ⟨by omega, (may_pos (by omega)).mpr ?_⟩
      show _ ≠ (step m r 0).getD 0 0
      rw [step_ne (by omega), step_self (by omega), nx, eq 1 (by omega)]
      exact fun q => dn q.symm
  · have low : ∀ i, i < k → r.getD i 0 = r.getD 0 0 := fun i hi => by
      have := eq_up (r := r) (lo := 0) i fun j h1 h2 => eq_of_not (by omega) (only j (by omega) (by omega))
      rw [Nat.zero_add] at this
      exact this
    have high : ∀ i, k ≤ i → i < n → r.getD i 0 = r.getD k 0 := fun i h1 h2 => by
      have := eq_up (r := r) (lo := k) (i - k) fun j h3 h4 => eq_of_not (by omega) (only j (by omega) (by omega))
      have e : k + (i - k) = i := by omega
      rw [e] at this
      exact this
    have df := (may_pos k0).mp hkm
    have nx : nxt m r k = r.getD 0 0 := by
      unfold nxt
      rw [if_neg k0]
      exact low (k - 1) (by omega)
    rw [low (k - 1) (by omega)] at df
    by_cases kl : k + 1 = n
    · have e1 : succ n k = 0 := by unfold succ; rw [if_pos kl]
      rw [e1]
      have eq : ∀ i, i < n → (step m r k).getD i 0 = r.getD 0 0 := fun i hi => by
        by_cases q : k = i
        · subst q
          rw [step_self (by omega), nx]
        · rw [step_ne q]
          exact low i (by omega)
      constructor
      · rintro ⟨hi, hm⟩
        by_cases i0 : i = 0
        · exact i0
        · exfalso
          have := (may_pos i0).mp hm
          rw [eq i hi, eq (i - 1) (by omega)] at this
          exact this rfl
      · intro e
        subst e
        exact ⟨by omega, may_zero.mpr (by rw [sl, eq 0 (by omega), eq (n - 1) (by omega)])⟩
    · have e1 : succ n k = k + 1 := by unfold succ; rw [if_neg kl]
      rw [e1]
      constructor
      · rintro ⟨hi, hm⟩
        by_cases i0 : i = 0
        · subst i0
          exfalso
          have := may_zero.mp hm
          rw [sl, step_ne k0, step_ne (by omega), high (n - 1) (by omega) (by omega)] at this
          exact df this.symm
        · have q := (may_pos i0).mp hm
          by_cases ik : i = k
          · subst ik
            exfalso
            rw [step_self (by omega), step_ne (by omega), nx, low (i - 1) (by omega)] at q
            exact q rfl
          · by_cases ik1 : i = k + 1
            · exact ik1
            · exfalso
              rw [step_ne (by omega), step_ne (by omega)] at q
              by_cases lt : i < k
              · rw [low i lt, low (i - 1) (by omega)] at q
                exact q rfl
              · rw [high i (by omega) hi, high (i - 1) (by omega) (by omega)] at q
                exact q rfl
      · intro e
        subst e
        refine ⟨by omega, (may_pos (by omega)).mpr ?_⟩
        show _ ≠ (step m r k).getD k 0
        rw [step_ne (by omega), step_self (by omega), nx, high (k + 1) (by omega) (by omega)]
        exact df
/-! ### what is refused -/
/-- what a ring and many that are handed in are refused with, by the place in the list of refusals -/
def badRing (r : List Int) (m : Int) : Prop := r.length < 2 ∨ 12 < r.length ∨ ∃ x ∈ r, x < 0 ∨ m ≤ x
open Classical in
noncomputable def refuse (r : List Int) (m : Int) : Option Nat := if m < 2 ∨ 100 < m then some 0 else if badRing r m then some 1 else none
theorem refuse_none {r : List Int} {m : Int} (h : refuse r m = none) : Good r.length m r := by
  unfold refuse at h
  split at h
  · cases h
  · rename_i h1
    split at h
    · cases h
    · rename_i h2
      unfold badRing at h2
      refine ⟨rfl, ?_, ?_, ?_, ?_, fun x hx => ?_⟩
      · exact Decidable.byContradiction fun q => h2 (Or.inl (by omega))
      · exact Decidable.byContradiction fun q => h2 (Or.inr (Or.inl (by omega)))
      · exact Decidable.byContradiction fun q => h1 (Or.inl (by omega))
      · exact Decidable.byContradiction fun q => h1 (Or.inr (by omega))
      · exact Decidable.byContradiction fun q => h2 (Or.inr (Or.inr ⟨x, hx, by omega⟩))
theorem good_refuse {n : Nat} {r : List Int} {m : Int} (g : Good n m r) : refuse r m = none := by
  have a := g.len
  have b := g.n2
  have c := g.n12
  have d := g.m2
  have e := g.m100
  unfold refuse
  rw [if_neg (by omega), if_neg]
  rintro (h | h | ⟨x, hx, h⟩)
  · omega
  · omega
  · have := g.val x hx
    omega
/-- what a step of machine z is refused with -/
def refuseAt (r : List Int) (z : Int) : Option Nat := if z < 0 ∨ (r.length : Int) ≤ z then some 2 else if may r z.toNat = true then none else some 3
theorem refuseAt_none {r : List Int} {z : Int} (h : refuseAt r z = none) : 0 ≤ z ∧ z < r.length ∧ may r z.toNat = true := by
  unfold refuseAt at h
  split at h
  · cases h
  · split at h
    · rename_i h1 h2
      exact ⟨by omega, by omega, h2⟩
    · cases h
noncomputable def refuseStep (r : List Int) (m z : Int) : Option Nat := (refuse r m).or (refuseAt r z)
theorem good_refuseStep {n : Nat} {r : List Int} {m : Int} (g : Good n m r) (z : Int) : refuseStep r m z = refuseAt r z := by
  unfold refuseStep
  rw [good_refuse g]
  rfl
theorem refuseAt_j {r : List Int} {z : Int} {j : Nat} (h : refuseAt r z = some j) : j = 2 ∨ j = 3 := by
  unfold refuseAt at h
  split at h
  · exact Or.inl (Option.some.inj h).symm
  · split at h
    · cases h
    · exact Or.inr (Option.some.inj h).symm
/-- where an order leads -/
def endOf (m : Int) (r : List Int) (zs : List Int) : List Int := zs.foldl (fun r z => step m r z.toNat) r
/-- what an order is refused with, at its first step that can't be -/
def refuseGo (m : Int) : List Int → List Int → Option Nat
  | _, [] => none
  | r, z :: zs => (refuseAt r z).or (refuseGo m (step m r z.toNat) zs)
/-- the rings on the way, the first one too -/
def path (m : Int) : List Int → List Int → List (List Int)
  | r, [] => [r]
  | r, z :: zs => r :: path m (step m r z.toNat) zs
theorem endOf_snoc {m : Int} {r zs : List Int} {z : Int} : endOf m r (zs ++ [z]) = step m (endOf m r zs) z.toNat := by
  unfold endOf
  rw [List.foldl_append]
  rfl
theorem path_snoc {m : Int} : ∀ {zs r : List Int} {z : Int}, path m r (zs ++ [z]) = path m r zs ++ [step m (endOf m r zs) z.toNat]
  | [], r, z => rfl
  | y :: zs, r, z => by
    show r :: path m (step m r y.toNat) (zs ++ [z]) = r :: path m (step m r y.toNat) zs ++ [step m (endOf m (step m r y.toNat) zs) z.toNat]
    rw [path_snoc (zs := zs)]
    rfl
theorem path_len {m : Int} : ∀ {zs r : List Int}, (path m r zs).length = zs.length + 1
  | [], _ => rfl
  | _ :: zs, r => by
    show (path m _ zs).length + 1 = zs.length + 1 + 1
    rw [path_len (zs := zs)]
theorem path_last {m : Int} : ∀ {zs r : List Int}, (path m r zs)[zs.length]? = some (endOf m r zs)
  | [], _ => rfl
  | z :: zs, r => by
    show (r :: path m (step m r z.toNat) zs)[zs.length + 1]? = some (endOf m (step m r z.toNat) zs)
    rw [List.getElem?_cons_succ]
    exact path_last (zs := zs)
theorem refuseGo_append {m : Int} : ∀ {zs ws r : List Int}, refuseGo m r (zs ++ ws) = (refuseGo m r zs).or (refuseGo m (endOf m r zs) ws)
  | [], ws, r => by
    show refuseGo m r ws = (none : Option Nat).or (refuseGo m r ws)
    rfl
  | z :: zs, ws, r => by
    show (refuseAt r z).or (refuseGo m (step m r z.toNat) (zs ++ ws)) = ((refuseAt r z).or (refuseGo m (step m r z.toNat) zs)).or _
    rw [refuseGo_append (zs := zs)]
    cases refuseAt r z <;> rfl
theorem refuseGo_snoc {m : Int} {zs r : List Int} {z : Int} (h : refuseGo m r zs = none) : refuseGo m r (zs ++ [z]) = refuseAt (endOf m r zs) z := by
  rw [refuseGo_append, h]
  show (refuseAt (endOf m r zs) z).or none = _
  cases refuseAt (endOf m r zs) z <;> rfl
/-- the order's beginning is refused: so is the order -/
theorem refuseGo_take {m : Int} {zs r : List Int} {i j : Nat} (h : refuseGo m r (zs.take i) = some j) : refuseGo m r zs = some j := by
  have e := refuseGo_append (m := m) (zs := zs.take i) (ws := zs.drop i) (r := r)
  rw [List.take_append_drop] at e
  rw [e, h]
  rfl
theorem take_snoc {α : Type} : ∀ {l : List α} {i : Nat} {x : α}, l[i]? = some x → l.take (i + 1) = l.take i ++ [x]
  | [], i, x, h => by simp at h
  | a :: l, 0, x, h => by
    have e : a = x := Option.some.inj h
    subst e
    rfl
  | a :: l, i + 1, x, h => by
    have ih := take_snoc (l := l) (i := i) (x := x) h
    show a :: l.take (i + 1) = a :: l.take i ++ [x]
    rw [ih]
    rfl
theorem Good.endOf {n : Nat} {m : Int} : ∀ {zs r : List Int}, Good n m r → Good n m (endOf m r zs)
  | [], _, g => g
  | z :: zs, r, g => Good.endOf (zs := zs) (g.step z.toNat)
theorem path_all {n : Nat} {m : Int} : ∀ {r : List Int}, Good n m r → ∀ (zs : List Int) (x : List Int), x ∈ path m r zs → Good n m x
  | r, g, [], x, hx => by
    have e : x = r := List.mem_singleton.mp hx
    rw [e]
    exact g
  | r, g, z :: zs, x, hx => by
    rcases List.mem_cons.mp hx with e | e
    · rw [e]
      exact g
    · exact path_all (g.step z.toNat) zs x e
theorem refuseGo_j {m : Int} : ∀ {zs r : List Int} {j : Nat}, refuseGo m r zs = some j → j = 2 ∨ j = 3
  | [], _, _, h => by cases h
  | z :: zs, r, j, h => by
    have h' : (refuseAt r z).or (refuseGo m (step m r z.toNat) zs) = some j := h
    cases e : refuseAt r z with
    | some i =>
      rw [e] at h'
      have q : i = j := Option.some.inj h'
      subst q
      exact refuseAt_j e
    | none =>
      rw [e] at h'
      exact refuseGo_j (zs := zs) h'
/-- an order of ints that can be gone is a legal one -/
theorem legal_of_go {m : Int} : ∀ {zs r : List Int}, refuseGo m r zs = none → legal m r (zs.map Int.toNat) ∧ endOf m r zs = run m r (zs.map Int.toNat) ∧ ∀ z ∈ zs, 0 ≤ z
  | [], _, _ => ⟨trivial, rfl, fun _ h => nomatch h⟩
  | z :: zs, r, h => by
    have h' : (refuseAt r z).or (refuseGo m (step m r z.toNat) zs) = none := h
    cases e : refuseAt r z with
    | some i =>
      rw [e] at h'
      cases h'
    | none =>
      rw [e] at h'
      obtain ⟨h0, h1, h2⟩ := refuseAt_none e
      obtain ⟨l1, l2, l3⟩ := legal_of_go (zs := zs) h'
      refine ⟨⟨mem_able.mpr ⟨by omega, h2⟩, l1⟩, l2, fun y hy => ?_⟩
      rcases List.mem_cons.mp hy with q | q
      · omega
      · exact l3 y q
theorem go_of_legal {m : Int} : ∀ {ks : List Nat} {r : List Int}, legal m r ks → refuseGo m r (ks.map fun k : Nat => (k : Int)) = none ∧ endOf m r (ks.map fun k : Nat => (k : Int)) = run m r ks
  | [], _, _ => ⟨rfl, rfl⟩
  | k :: ks, r, ⟨h, hl⟩ => by
    obtain ⟨h1, h2⟩ := mem_able.mp h
    obtain ⟨i1, i2⟩ := go_of_legal hl
    refine ⟨?_, i2⟩
    show (refuseAt r (k : Int)).or (refuseGo m (step m r ((k : Int)).toNat) (ks.map fun k : Nat => (k : Int))) = none
    have e : refuseAt r (k : Int) = none := by
      unfold refuseAt
      rw [if_neg (by omega)]
      have t : ((k : Int)).toNat = k := rfl
      rw [t, if_pos h2]
    rw [e]
    exact i1

end HR


/-! Own words over the hand layer: what the laws of the healing ring want besides. -/
namespace HL
open PySem PySem.Spec PyProof.Rows L2

/-! ### heaps -/
theorem seqT_same {K : PySem.W.Frag} {H H' : Hp} {a : Addr} {xs : List V} (e : Same H H') (h : SqT K H a xs) : SqT K H' a xs := by
  rcases h with (h | ⟨o, h⟩) | h
  · exact Or.inl (Or.inl (e a _ h))
  · exact Or.inl (Or.inr ⟨o, e a _ h⟩)
  · exact Or.inr h
theorem same_new {H : Hp} {p : Addr} {o : HO} (h : H p = none) : Same H (upd H p o) := fun b x e => (upd_ne (ne_of_none e h)).trans e
theorem seqT_upd {K : PySem.W.Frag} {H : Hp} {a p : Addr} {xs : List V} {o : HO} (h : SqT K H a xs) (n : H p = none) : SqT K (upd H p o) a xs := seqT_same (same_new n) h
theorem seqL_upd {K : PySem.W.Frag} {H : Hp} {a p : Addr} {xs : List V} {o : HO} (h : SqL K H a xs) (n : H p = none) : SqL K (upd H p o) a xs := (same_new n).seq h
/-- what was tracked ahead stands, but for the one at l, which was made behind -/
def SameBut (H : Hp) (l : Addr) (H' : Hp) : Prop := Same H H' ∧ H l = none

/-! ### a def that may raise, out of a quiet place -/
section
variable {P : Program} {w : World} {K : PySem.W.Frag} {mg : Str → Option Value} {base : Heap}
theorem okN {x qual : Str} {st : Stmt} {f : Addr} {fd : FuncData} {N ps : List Str} {k : Nat} {sp : Sp} (F : Fun K x qual st f fd) (S : FnScope N ps (defScope st)) (len : ∀ vs H Q E, sp vs H Q E → vs.length = ps.length)
    (hb : ∀ (cdv : Value) (A : Around) (outer : List Env) (s : Shared) (H : Hp) (vs : List V) (Q : VK) (E : XK), Room k (A.deeper (envOfC qual (defScope st) s.heap.objs.size f cdv)) → sp vs H Q E →
      ∃ t, PSs (cxOf (L2N.CX P w) P w K mg base N qual (defScope st) f cdv A outer s H E) (defBody st) t ∧ t { nx := fun _ H' => Q .non H', rt := Q } (start N vs) H) :
    FnOk P w K mg base (L2N.CX P w) (k + 1) f fd ps sp := by
  obtain ⟨oc, od, kV, doc, pm, an, cdv, ct, osl, rfl, lk, hcd⟩ := F.ex
  exact fn_of lk hcd S len fun A outer s H vs Q E hr h => hb cdv A outer s H vs Q E hr h
theorem takes0N {X : Cx} : L2N.Takes X (fun _ _ _ _ => False) := fun _ _ x => by
  obtain ⟨_, _, _, _, _, _, _, _, _, _, _, _, _, _, _, _, z⟩ := x
  exact z.elim
theorem passN {X : Cx} : Passes (L2N.CX X.prog X.w) X E0 := fun _ _ _ _ _ _ _ h => by
  obtain ⟨_, _, _, _, _, _, _, _, _, _, _, _, z⟩ := h
  exact z.elim
/-- a def that lets nothing out, where a raising one is asked -/
theorem okToN {f : Addr} {fd : FuncData} {ps : List Str} {k : Nat} {sp : Sp} (F : FnOk P w K mg base CX0 k f fd ps sp) : FnOk P w K mg base (L2N.CX P w) k f fd ps sp :=
  ⟨F.len, fun A outer s H args us vs Q E hr he hb hv hs => codeAny_mono (F.run A outer s H args us vs Q E hr he hb hv hs) fun r s' q => by
    cases r with
    | error e => exact False.elim q
    | ok fl =>
      cases fl with
      | ret u => exact q
      | _ => exact False.elim q⟩
end

/-! ### defs called where an exception is held: the promise may speak of that exception -/
open L2H (RoomH Hot1 PinOk HotC cxH inv_startH roomH_of)
/-- a promise that speaks of the held exception: its address, its class, its dict -/
abbrev SpE := Addr → Value → Option Addr → Sp
structure FnE (P : Program) (w : World) (K : PySem.W.Frag) (mg : Str → Option Value) (base : Heap) (CX : CXT) (k : Nat) (f : Addr) (fd : FuncData) (ps : List Str) (sp : SpE) : Prop where
  len : ∀ a c d vs H Q E, sp a c d vs H Q E → vs.length = ps.length
  go : ∀ (p : Addr × Obj) (c : Value) (d : Option Addr) (A : Around) (outer : List Env) (s : Shared) (H : Hp) (args : Args) (us : List Value) (vs : List V) (Q : VK) (E : XK), L2N.Zn c d p.2 → (∃ fv, p.2.data = .fields fv) → RoomH k A → Hot1 A p → PinOk outer H s p →
    Env0 P w K mg base A outer s H → BindsTo s fd args (ps.zip us) → Vals vs us → sp p.1 c d vs H Q E → codeAny (model P w) A (.call (.ref f) args) (CR CX outer P w H s Q E) s
section
variable {P : Program} {w : World} {K : PySem.W.Frag} {mg : Str → Option Value} {base : Heap} {CX : CXT}
theorem okE {x qual : Str} {st : Stmt} {f : Addr} {fd : FuncData} {N ps : List Str} {k : Nat} {sp : SpE} (F : Fun K x qual st f fd) (S : FnScope N ps (defScope st)) (len : ∀ a c d vs H Q E, sp a c d vs H Q E → vs.length = ps.length)
    (hb : ∀ (cdv : Value) (A : Around) (outer : List Env) (s : Shared) (H : Hp) (vs : List V) (Q : VK) (E : XK) (p : Addr × Obj) (c : Value) (d : Option Addr), L2N.Zn c d p.2 → (∃ fv, p.2.data = .fields fv) → Hot1 A p → RoomH k (A.deeper (envOfC qual (defScope st) s.heap.objs.size f cdv)) → sp p.1 c d vs H Q E →
      ∃ t, PSs (cxH CX P w K mg base N qual (defScope st) f cdv A outer s H E p) (defBody st) t ∧ t { nx := fun _ H' => Q .non H', rt := Q } (L2.start N vs) H) :
    FnE P w K mg base CX (k + 1) f fd ps sp := by
  obtain ⟨oc, od, kV, doc, pm, an, cdv, ct, osl, rfl, lk, hcd⟩ := F.ex
  refine ⟨len, fun p c d A outer s H args us vs Q E hz hf hr hot hpin e0 hbd r hs => ?_⟩
  have hl := len _ _ _ _ _ _ _ hs
  have inK : K.In s.heap := e0.mod.kin.keeps fun b o e => (e0.bs b o e).1
  have free : s.heap.NoLimit := e0.mod.nolimit.keeps fun b o e => (e0.bs b o e).1
  have kinds : ∀ y ∈ ps.zip us, (defScope st).names.lookup y.1 = some .local ∨ ((defScope st).names.lookup y.1 = some .cell ∧ ((cellsFrom (s.heap.objs.size + 1) (defScope st).names []).lookup y.1).isSome = true) := fun y hy => by
    rcases S.par y.1 (List.of_mem_zip hy).1 with q | q
    · exact Or.inl q
    · exact Or.inr ⟨q, PySem.W.cellsFrom_some _ _ _ (Or.inl q)⟩
  refine codeAny_call_function hr.depth (inK _ _ lk) rfl S.co S.gen rfl (PySem.W.codeRec_of inK hcd) (hbd _ _ _ _ ?_)
  refine wpAny_newFunctionEnv_cells S.kind kinds fun env he s1 xx => ?_
  subst he
  refine ⟨free.keeps xx.toInCall.keep, codeAny_func ?_⟩
  obtain ⟨t, ht, hq⟩ := hb cdv A outer s H vs Q E p c d hz hf hot (hr.deeper _) hs
  have I : Inv (cxH CX P w K mg base N qual (defScope st) f cdv A outer s H E p) [] (L2.start N vs) H s1 := inv_startH S hpin e0 hl r xx
  refine wpAny_mono (ht.run [] s1 (L2.start N vs) H _ I hq) (fun fl s' z => ?_) fun e s' z => z
  cases fl with
  | ret u =>
    obtain ⟨v, σ', H', J, rv, q⟩ := z
    exact ⟨v, H', J.os, J.bare, J.base, J.hok, rv, q⟩
  | next =>
    obtain ⟨σ', H', J, q⟩ := z
    exact ⟨V.non, H', J.os, J.bare, J.base, J.hok, rfl, q⟩
  | brk => exact z.elim fun _ z => z.elim fun _ z => z.2.elim
  | cont => exact z.elim fun _ z => z.elim fun _ z => z.2.elim
end
/-- f(e, ..) where the exception at a is held -/
def tCallE (a : Addr) (c : Value) (d : Option Addr) (sp : SpE) (E : L2.St → XK) (t : TA) : TE := fun σ H Q => t σ H fun vs H1 => sp a c d vs H1 Q (E σ)
section
variable {X : Cx} {CX : CXT} {k : Nat} {f : Addr} {fd : FuncData} {ps : List Str} {sp : SpE} {E : L2.St → XK} {x : Str} {q pos : Pos} {e : Expr} {es : List Expr} {t : TA} {a : Addr} {oe : Obj} {c : Value} {d : Option Addr}
theorem pe_callE (F : FnE X.prog X.w X.K X.mg X.base CX k f fd ps sp) (hr : RoomH k X.A) (hz : L2N.Zn c d oe) (hf : ∃ fv, oe.data = .fields fv) (hot : Hot1 X.A (a, oe)) (hp : (a, oe) ∈ X.pn) (hg : Gl X x) (hm : X.mg x = some (.ref f)) (hk : PySem.W.keepIn X.K (.ref f) = true) (hb : Binds X.K fd ps [])
    (hx : ∀ σ, PassesAt CX X σ (E σ)) (ha : PA X (e :: es) t) (hdb : (x == ("__debug__" : Str)) = false := by decide)
    (he : starEach (e :: es) X.env = (false, eval e X.env) :: starEach es X.env := by rfl) (hpl : (backTo pos (starEach es X.env)).any (·.1) = false := by rfl) :
    PE X (.Call (.Name x q) (e :: es) [] pos) (tCallE a c d sp E t) := by
  refine ⟨fun pins s σ H Q I h => wpAny_Call_Name_kw (ld_glob I hg hm ?_ hdb)⟩
  refine PySem.W.callWith_K (h₀ := X.base) I.ok.mod.kin hk (thn (ha.run pos pins s σ H _ I h) fun us s1 ⟨vs, H1, J, r, z⟩ => ⟨J.kIn, ?_⟩) he hpl
  have hl : us.length = ps.length := r.length.symm.trans (F.len _ _ _ _ _ _ _ z)
  have bd := hb s1 us J.kIn (by rw [List.append_nil]; exact hl)
  rw [List.append_nil] at bd
  have P1 := J.pin (a, oe) (List.mem_append_left _ hp)
  have pk : PinOk X.stack H1 s1 (a, oe) := ⟨P1.1, P1.2.1, fun hm => (List.mem_cons.mp (J.stkSub a hm)).elim P1.2.2.1 P1.2.2.2.1, P1.2.2.2.2⟩
  refine wpAny_call (codeAny_mono (F.go (a, oe) c d X.A X.stack s1 H1 ⟨us, []⟩ us vs Q (E σ) hz hf hr hot pk J.env0 bd r z) fun r s' hq => ?_)
  cases r with
  | error e => exact hx σ pins H1 s1 e s' J hq
  | ok fl =>
    cases fl with
    | ret u => exact J.after hq
    | _ => exact False.elim hq
/-- isinstance(e, c), e the exception that is held -/
def rIsP (K : PySem.W.Frag) (D a : Addr) : List V → Hp → VK → Prop := fun xs H Q => ∃ (c : V) (cv : Value) (b : Bool), xs = [.ref a, c] ∧ (∀ u, RelV c u → u = cv) ∧ PySem.W.kitOne K (.ref D) cv = some b ∧ Q (.bl b) H
theorem call_isP {a D : Addr} {oe : Obj} (C : ExcC X.K D) (hp : (a, oe) ∈ X.pn) (hz : Zc (.ref D) none oe) (hf : ∃ vs, oe.data = .fields vs) : CallR X (.builtin "isinstance") (rIsP X.K D a) := by
  intro pins s σ H xs us Q I r h
  obtain ⟨c, cv, b, rfl, hcv, e, q⟩ := h
  obtain ⟨u1, u2, rfl, r1, r2⟩ := vals2 r
  cases r1
  have ec := hcv _ r2
  subst ec
  obtain ⟨hget, _⟩ := I.pin (a, oe) (List.mem_append_left _ hp)
  obtain ⟨vs, hv⟩ := hf
  have J : PySem.W.InstAt s.heap a oe D none := by
    obtain ⟨oc, od, oda, osl⟩ := oe
    obtain ⟨h1, h2⟩ := hz
    dsimp only at h1 h2 hv
    subst h1 h2 hv
    exact ⟨hget, rfl, rfl, trivial⟩
  exact PySem.W.kia_one (PySem.W.handS_kitx_exc C.hg C.hk C.hs C.hd C.ha C.hn C.ht C.hm) I.kIn J e (fun z => nomatch z) fun tk => ⟨.bl b, H, I.tok tk, rfl, q⟩
end

/-! ### xs.count(True) of a list of truths -/
def eqB (b : Bool) : Value → Bool
  | .bool c => c == b
  | _ => false
def rCntB (K : PySem.W.Frag) : V → List V → Hp → VK → Prop := fun x xs H Q => ∃ (p : Addr) (bs : List Bool) (b : Bool), x = .ref p ∧ xs = [.bl b] ∧ SqL K H p (bs.map V.bl) ∧ Q (.int (bs.count b : Nat)) H
theorem vals_bools : ∀ {bs : List Bool} {us : List Value}, Vals (bs.map V.bl) us → us = bs.map Value.bool
  | [], _, .nil => rfl
  | b :: bs, _, .cons r t => by
    cases r
    rw [vals_bools (bs := bs) t]
    rfl
theorem count_eqB (b : Bool) : ∀ bs : List Bool, (bs.map Value.bool).countP (eqB b) = bs.count b
  | [] => rfl
  | c :: bs => by
    rw [List.map_cons, List.countP_cons, List.count_cons, count_eqB b bs]
    rfl
theorem mt_countB {X : Cx} : MtR X "list.count" (rCntB X.K) := by
  intro pins s σ H x xs v us Q I rx rxs h
  obtain ⟨p, bs, b, rfl, rfl, hs, q⟩ := h
  cases rx
  obtain ⟨u, rfl, ru⟩ := vals1 rxs
  cases ru
  obtain ⟨its, rv, ⟨⟨cls, dd, data, sl⟩, n, ho, hc, hdn, hd⟩, hlen⟩ := I.list hs
  simp only at hc hd
  subst hc hd
  have ei := vals_bools rv
  subst ei
  refine call_meets PySem.F.slot_list_count ⟨_, ho, rfl⟩ PySem.F.entry_list_count (PySem.F.args_list_count_2 _ _)
    (SeqAt.list_countAt p _ n dd sl (.bool b) (eqB b)) ⟨ho, fun y hy => ?_, ?_⟩
  · have hy' : y ∈ bs.map Value.bool := by simpa using hy
    obtain ⟨c, _, rfl⟩ := List.mem_map.mp hy'
    exact SeqAt.EqAt.bool_bool c b
  · have ec : (bs.map Value.bool).toArray.toList.countP (eqB b) = bs.count b := count_eqB b bs
    refine ⟨.int (bs.count b : Nat), H, I.tok _, ⟨s.toks, ?_⟩, q⟩
    rw [ec]
end HL


namespace HL
open PySem PySem.Spec PyProof.Rows L2
/-! ### t * k of a tuple, any small k -/
theorem rep_one (l : Addr) (items : Array Value) (n : Nat) (dd : Option Addr) (sl : Array (Option Value)) (x : Int) (u : Tok) (hx : (items.isEmpty || x == 1) = true) (c0 : (decide (x < -(2 ^ 63)) || decide (x ≥ 2 ^ 63)) = false) :
    Meets (Builtin.«tuple.__mul__» ⟨[.ref l, .int x u], []⟩) (fun _ R s => s.heap.get? l = some { cls := .type "tuple", dict := dd, data := .seq items n, slots := sl } ∧ R (.ok (.ret (Value.ref l))) { s with heap := s.heap, toks := s.toks }) :=
  .of_wp fun prog w A R s h => by
    obtain ⟨hp, g, d, tk, os⟩ := s
    obtain ⟨hl, h⟩ := h
    have f1 := AutoSeq1.idx_int
    wp_walk using wpAny_loadPart' hl
    repeat (first
      | (refine wpAny_ite_false (decide_eq_false (by rw [c0]; exact Bool.false_ne_true)) ?_; wp_walk using wpAny_loadPart' hl)
      | (refine wpAny_ite_true (decide_eq_true hx) ?_; wp_walk using wpAny_loadPart' hl))
    exact ⟨_, rfl, h⟩
theorem rep_none (l : Addr) (items : Array Value) (n : Nat) (dd : Option Addr) (sl : Array (Option Value)) (x : Int) (u : Tok) (c0 : (decide (x < -(2 ^ 63)) || decide (x ≥ 2 ^ 63)) = false) (c1 : (items.isEmpty || x == 1) = false) (c2 : (decide (x ≤ 0) || items.isEmpty) = true) :
    Meets (Builtin.«tuple.__mul__» ⟨[.ref l, .int x u], []⟩) (fun _ R s => s.heap.get? l = some { cls := .type "tuple", dict := dd, data := .seq items n, slots := sl } ∧
      R (.ok (.ret (Value.ref s.heap.objs.size))) { s with heap := s.heap.push { cls := Value.type "tuple", data := Data.seq #[] }, toks := s.toks }) :=
  .of_wp fun prog w A R s h => by
    obtain ⟨hp, g, d, tk, os⟩ := s
    obtain ⟨hl, h⟩ := h
    have f1 := AutoSeq1.idx_int
    wp_walk using wpAny_loadPart' hl
    repeat (first
      | (refine wpAny_ite_false (decide_eq_false (by rw [c0]; exact Bool.false_ne_true)) ?_; wp_walk using wpAny_loadPart' hl)
      | (refine wpAny_ite_false (decide_eq_false (by rw [c1]; exact Bool.false_ne_true)) ?_; wp_walk using wpAny_loadPart' hl)
      | (refine wpAny_ite_true (decide_eq_true c2) ?_; wp_walk using wpAny_loadPart' hl))
    exact ⟨_, rfl, h⟩
/-- t * k: t itself by 1 (and where it is empty), else a new one -/
def rRepA (K : PySem.W.Frag) : R2 := fun x y H Q => ∃ l k xs, x = .ref l ∧ y = .int k ∧ SqT K H l xs ∧ xs ≠ [] ∧ -1000 ≤ k ∧ k ≤ 1000 ∧ xs.length ≤ 1000 ∧
  ∀ p H', Same H H' → SqT K H' p (List.replicate k.toNat xs).flatten → Q (.ref p) H'
section
variable {X : Cx}
theorem op_repA : OpR X (binaryOp .Mult) (rRepA X.K) := by
  intro pins s σ H x y v u Q I rx ry h
  obtain ⟨l, k, xs, rfl, rfl, hT, hne, h1, h2, hz, q⟩ := h
  by_cases c : 2 ≤ k
  · exact op_repT pins s σ H _ _ v u Q I rx ry ⟨l, k, xs, rfl, rfl, hT, hne, c, h2, hz, fun p hp => q p _ (same_new hp) (SqT.of upd_same)⟩
  cases rx
  obtain ⟨t, rfl⟩ := ry
  obtain ⟨its, r, ⟨⟨cls, dd, data, sl⟩, ho, hc, n, hd⟩, hs⟩ := I.tuple hT
  simp only at hc hd
  subst hc hd
  have hle : its.length = xs.length := r.length.symm
  have hn : its ≠ [] := fun e => hne (by
    rw [e] at hle
    exact List.eq_nil_of_length_eq_zero hle.symm)
  have hi : its.toArray.isEmpty = false := by
    cases its with
    | nil => exact absurd rfl hn
    | cons a b => rfl
  have c0 : (decide (k < -(2 ^ 63)) || decide (k ≥ 2 ^ 63)) = false := by
    rw [decide_eq_false (by omega), decide_eq_false (by omega)] <;> rfl
  by_cases k1 : k = 1
  · subst k1
    refine wpAny_binaryOp_repeat_ref (T := "tuple") (U := "int") (by decide) ⟨_, ho, rfl⟩ (fun s' => typeIs_int s' 1 t) noFill_tuple_mul F.fills_int_mul F.slot_int_rmul repeat_tuple F.slot_int_index.lookup
      (call_meets F.slot_int_rmul (typeIs_int s 1 t) F.entry_int_rmul (F.args_int_rmul_2 _ _) (int_rmul_tuple 1 t l its.toArray n dd sl)
        ⟨ho, rfl, ⟨_, ho, rfl⟩, call_meets F.slot_tuple_mul ⟨_, ho, rfl⟩ F.entry_tuple_mul (F.args_tuple_mul_2 _ _) (rep_one l its.toArray n dd sl 1 t (by rw [hi]; rfl) c0) ⟨ho, ?_⟩⟩)
    exact ⟨.ref l, H, I, rfl, q l H (Same.refl H) (by
      have e : (List.replicate (1 : Int).toNat xs).flatten = xs := by
        show (List.replicate 1 xs).flatten = xs
        rw [List.replicate_one, List.flatten_singleton]
      rw [e]
      exact hT)⟩
  · have c1 : (its.toArray.isEmpty || k == 1) = false := by
      rw [hi, Bool.false_or]
      exact beq_eq_false_iff_ne.mpr k1
    have c2 : (decide (k ≤ 0) || its.toArray.isEmpty) = true := by
      rw [decide_eq_true (by omega), Bool.true_or]
    refine wpAny_binaryOp_repeat_ref (T := "tuple") (U := "int") (by decide) ⟨_, ho, rfl⟩ (fun s' => typeIs_int s' k t) noFill_tuple_mul F.fills_int_mul F.slot_int_rmul repeat_tuple F.slot_int_index.lookup
      (call_meets F.slot_int_rmul (typeIs_int s k t) F.entry_int_rmul (F.args_int_rmul_2 _ _) (int_rmul_tuple k t l its.toArray n dd sl)
        ⟨ho, rfl, ⟨_, ho, rfl⟩, call_meets F.slot_tuple_mul ⟨_, ho, rfl⟩ F.entry_tuple_mul (F.args_tuple_mul_2 _ _) (rep_none l its.toArray n dd sl k t c0 c1 c2) ⟨ho, ?_⟩⟩)
    have e : (List.replicate k.toNat xs).flatten = [] := by
      rw [show k.toNat = 0 by omega]
      rfl
    refine ⟨.ref s.heap.objs.size, _, I.laid (t' := s.toks) (o := .tup []) (fun b ob q => Heap.get?_push_of_some _ q) (Nat.le_refl _) ?_, rfl, q _ _ (same_new (I.hok.fresh (Nat.le_refl _))) (by rw [e]; exact SqT.of upd_same)⟩
    exact ⟨Nat.zero_le _, [], .nil, IsTup.new _ _⟩
end
end HL


namespace HL
open PySem PySem.Spec PyProof.Rows L2
/-! ### the program's own errors -/
/-- what the top has written of one error class -/
structure ExT (K : PySem.W.Frag) (mg : Str → Option Value) (C : Addr) (x : Str) : Prop where
  gl : mg x = some (.ref C)
  ex : PySem.W.excIn K C [.type "ValueError", .type "Exception", .type "BaseException", .type "object"] "ValueError.__new__" = true
  kp : PySem.W.keepIn K (.ref C) = true
  ba : PySem.W.subIn K (.ref C) (.type "BaseException") = some true
  ty : PySem.W.typeIn K (.ref C) = some (.type "type")
  cl : PySem.W.isClsIn K C = true
  va : PySem.W.subIn K (.ref C) (.type "ValueError") = some true
  ec : ExcC K C
/-- the six kinds of refusal and their common base -/
structure Fam (K : PySem.W.Frag) (cs : List Addr) (cH : Addr) : Prop where
  sub : ∀ (i j : Nat) (C D : Addr), cs[i]? = some C → cs[j]? = some D → PySem.W.subIn K (.ref C) (.ref D) = some (decide (i = j))
  top : ∀ (i : Nat) (C : Addr), cs[i]? = some C → PySem.W.subIn K (.ref C) (.ref cH) = some true
theorem fam_mk {K : PySem.W.Frag} {c0 c1 c2 c3 c4 c5 cH : Addr} (h00 : PySem.W.subIn K (.ref c0) (.ref c0) = some true) (h01 : PySem.W.subIn K (.ref c0) (.ref c1) = some false) (h02 : PySem.W.subIn K (.ref c0) (.ref c2) = some false) (h03 : PySem.W.subIn K (.ref c0) (.ref c3) = some false) (h04 : PySem.W.subIn K (.ref c0) (.ref c4) = some false) (h05 : PySem.W.subIn K (.ref c0) (.ref c5) = some false) (h0H : PySem.W.subIn K (.ref c0) (.ref cH) = some true) (h10 : PySem.W.subIn K (.ref c1) (.ref c0) = some false) (h11 : PySem.W.subIn K (.ref c1) (.ref c1) = some true) (h12 : PySem.W.subIn K (.ref c1) (.ref c2) = some false) (h13 : PySem.W.subIn K (.ref c1) (.ref c3) = some false) (h14 : PySem.W.subIn K (.ref c1) (.ref c4) = some false) (h15 : PySem.W.subIn K (.ref c1) (.ref c5) = some false) (h1H : PySem.W.subIn K (.ref c1) (.ref cH) = some true) (h20 : PySem.W.subIn K (.ref c2) (.ref c0) = some false) (h21 : PySem.W.subIn K (.ref c2) (.ref c1) = some false) (h22 : PySem.W.subIn K (.ref c2) (.ref c2) = some true) (h23 : PySem.W.subIn K (.ref c2) (.ref c3) = some false) (h24 : PySem.W.subIn K (.ref c2) (.ref c4) = some false) (h25 : PySem.W.subIn K (.ref c2) (.ref c5) = some false) (h2H : PySem.W.subIn K (.ref c2) (.ref cH) = some true) (h30 : PySem.W.subIn K (.ref c3) (.ref c0) = some false) (h31 : PySem.W.subIn K (.ref c3) (.ref c1) = some false) (h32 : PySem.W.subIn K (.ref c3) (.ref c2) = some false) (h33 : PySem.W.subIn K (.ref c3) (.ref c3) = some true) (h34 : PySem.W.subIn K (.ref c3) (.ref c4) = some false) (h35 : PySem.W.subIn K (.ref c3) (.ref c5) = some false) (h3H : PySem.W.subIn K (.ref c3) (.ref cH) = some true) (h40 : PySem.W.subIn K (.ref c4) (.ref c0) = some false) (h41 : PySem.W.subIn K (.ref c4) (.ref c1) = some false) (h42 : PySem.W.subIn K (.ref c4) (.ref c2) = some false) (h43 : PySem.W.subIn K (.ref c4) (.ref c3) = some false) (h44 : PySem.W.subIn K (.ref c4) (.ref c4) = some true) (h45 : PySem.W.subIn K (.ref c4) (.ref c5) = some false) (h4H : PySem.W.subIn K (.ref c4) (.ref cH) = some true) (h50 : PySem.W.subIn K (.ref c5) (.ref c0) = some false) (h51 : PySem.W.subIn K (.ref c5) (.ref c1) = some false) (h52 : PySem.W.subIn K (.ref c5) (.ref c2) = some false) (h53 : PySem.W.subIn K (.ref c5) (.ref c3) = some false) (h54 : PySem.W.subIn K (.ref c5) (.ref c4) = some false) (h55 : PySem.W.subIn K (.ref c5) (.ref c5) = some true) (h5H : PySem.W.subIn K (.ref c5) (.ref cH) = some true) : Fam K [c0, c1, c2, c3, c4, c5] cH := by
  refine ⟨fun i j C D hi hj => ?_, fun i C hi => ?_⟩
  · rcases i with _ | _ | _ | _ | _ | _ | i <;> rcases j with _ | _ | _ | _ | _ | _ | j <;>
      first
      | (have ei := Option.some.inj hi; have ej := Option.some.inj hj; subst ei ej; assumption)
      | (simp at hi; done)
      | (simp at hj; done)
  · rcases i with _ | _ | _ | _ | _ | _ | i <;>
      first
      | (have ei := Option.some.inj hi; subst ei; assumption)
      | (simp at hi; done)
section
variable {K : PySem.W.Frag} {mg : Str → Option Value} {cs : List Addr} {cH : Addr}
theorem kitCls_ref {t : Value} {D : Addr} {x : Str} {b : Bool} (d : ExT K mg D x) (h : PySem.W.subIn K t (.ref D) = some b) : PySem.W.kitCls K t (.ref D) = some b := by
  have e : ((PySem.W.clsIn K D).isSome && PySem.W.typeIn K (.ref D) == some (.type "type")) = true := by
    have q : (PySem.W.clsIn K D).isSome = true := d.cl
    rw [q, d.ty]
    rfl
  show (if ((PySem.W.clsIn K D).isSome && PySem.W.typeIn K (.ref D) == some (.type "type")) = true then PySem.W.subIn K t (.ref D) else none) = some b
  rw [if_pos e]
  exact h
theorem kitOne_ref {C D : Addr} {x : Str} {b : Bool} (d : ExT K mg D x) (h : PySem.W.subIn K (.ref C) (.ref D) = some b) (hb : C = D → b = true) : PySem.W.kitOne K (.ref C) (.ref D) = some b := by
  show (if (Value.ref C == Value.ref D) = true then some true else PySem.W.kitCls K (.ref C) (.ref D)) = some b
  by_cases q : C = D
  · rw [hb q, q]
    simp
  · have z : ¬ (Value.ref C == Value.ref D) = true := by simpa using q
    rw [if_neg z]
    exact kitCls_ref d h
theorem Fam.one (F : Fam K cs cH) {i j : Nat} {C D : Addr} {x : Str} (hi : cs[i]? = some C) (hj : cs[j]? = some D) (d : ExT K mg D x) : PySem.W.kitOne K (.ref C) (.ref D) = some (decide (i = j)) := by
  refine kitOne_ref d (F.sub i j C D hi hj) fun e => ?_
  subst e
  have a := F.sub i j C C hi hj
  have b := F.sub i i C C hi hi
  rw [a] at b
  have c := Option.some.inj b
  rw [c]
  exact decide_eq_true rfl
theorem Fam.heal (F : Fam K cs cH) {i : Nat} {C : Addr} {x : Str} (hi : cs[i]? = some C) (d : ExT K mg cH x) : PySem.W.kitOne K (.ref C) (.ref cH) = some true := kitOne_ref d (F.top i C hi) fun _ => rfl
theorem ExT.val {C : Addr} {x : Str} (d : ExT K mg C x) : PySem.W.kitOne K (.ref C) (.type "ValueError") = some true := by
  show (if (Value.ref C == Value.type "ValueError") = true then some true else (if PySem.W.kitMeta "ValueError" = true then PySem.W.subIn K (.ref C) (.type "ValueError") else none)) = some true
  rw [if_neg (by simp), if_pos (by decide +kernel)]
  exact d.va
theorem Fam.caught (F : Fam K cs cH) {i : Nat} {C : Addr} {x : Str} (hi : cs[i]? = some C) (d : ExT K mg cH x) : PySem.W.exmOne K (.ref C) (.ref cH) = some true :=
  PySem.W.exm_ref d.ba d.ec.hd d.ty (F.top i C hi)
end
theorem iteT' {c : Bool} {A B : Prop} (h : c = true) (a : A) : if c = true then A else B := by
  rw [if_pos h]
  exact a
theorem iteF' {c : Bool} {A B : Prop} (h : c = false) (b : B) : if c = true then A else B := by
  rw [h, if_neg Bool.false_ne_true]
  exact b
/-! ### a list that grows, made behind H0 -/
def ListAt (H0 : Hp) (D : Addr) (l : List V) (H : Hp) : Prop := Same H0 H ∧ H0 D = none ∧ H D = some (.lst l)
theorem ListAt.mk0 {H0 H : Hp} {D : Addr} {l : List V} (s : Same H0 H) (n : H D = none) : ListAt H0 D l (upd H D (.lst l)) := ⟨s.trans (same_new n), s.free n, upd_same⟩
theorem ListAt.on {H0 H H' : Hp} {D : Addr} {l : List V} (h : ListAt H0 D l H) (e : Same H H') : ListAt H0 D l H' := ⟨h.1.trans e, h.2.1, e _ _ h.2.2⟩
theorem ListAt.put {H0 H : Hp} {D : Addr} {l : List V} (l' : List V) (h : ListAt H0 D l H) : ListAt H0 D l' (upd H D (.lst l')) :=
  ⟨fun b o e => by
    have nb : b ≠ D := ne_of_none e h.2.1
    rw [upd_ne nb]
    exact h.1 _ _ e, h.2.1, upd_same⟩
/-- the list is written: what else was tracked behind stands -/
theorem ListAt.wr {H0 H : Hp} {D : Addr} {l l' : List V} (h : ListAt H0 D l H) {b : Addr} {o : HO} (e : H b = some o) (ne : b ≠ D) : upd H D (.lst l') b = some o := (upd_ne ne).trans e
/-- a tuple stands where a list is written -/
theorem seqT_wr {K : PySem.W.Frag} {H : Hp} {l a : Addr} {xs ys zs : List V} (hl : H l = some (.lst xs)) (h : SqT K H a ys) : SqT K (upd H l (.lst zs)) a ys := by
  rcases h with (h | ⟨o, h⟩) | h
  · exact Or.inl (Or.inl ((upd_ne (ne_of h hl (by intro q; cases q))).trans h))
  · exact Or.inl (Or.inr ⟨o, (upd_ne (ne_of h hl (by intro q; cases q))).trans h⟩)
  · exact Or.inr h
theorem ListAt.push {H0 H H' : Hp} {D : Addr} {l l' : List V} {y : V} (h : ListAt H0 D l H) (e : Same H H') (hz : l.length ≤ 1000000) (hl : l' = l ++ [y]) :
    ∃ acc, H' D = some (.lst acc) ∧ acc.length < sizeLine ∧ ListAt H0 D l' (upd H' D (.lst (acc ++ [y]))) := by
  subst hl
  exact ⟨l, e _ _ h.2.2, Nat.lt_of_le_of_lt hz (by rw [sizeLine_eq]; decide), (h.on e).put _⟩
theorem range_map_succ {α : Type} (f : Nat → α) (i : Nat) : (List.range (i + 1)).map f = (List.range i).map f ++ [f i] := by
  rw [List.range_succ, List.map_append]
  rfl
theorem range_fil_yes {p : Nat → Bool} {i : Nat} (h : p i = true) : (List.range (i + 1)).filter p = (List.range i).filter p ++ [i] := by
  rw [List.range_succ, List.filter_append, List.filter_cons, if_pos h]
  rfl
theorem range_fil_no {p : Nat → Bool} {i : Nat} (h : p i = false) : (List.range (i + 1)).filter p = (List.range i).filter p := by
  rw [List.range_succ, List.filter_append, List.filter_cons, if_neg (by rw [h]; exact Bool.false_ne_true)]
  simp
theorem same_upd2 {H0 H : Hp} {p : Addr} {o : HO} (s : Same H0 H) (n : H p = none) : Same H0 (upd H p o) := s.trans (same_new n)
theorem small63 {n : Nat} (h : n ≤ 1000) : n ≤ sizeLine := Nat.le_of_lt (small1000 h)
/-- an item by its place, of a list of ints -/
theorem at_int {r : List Int} {z : Int} {k : Nat} (e : z = (k : Int)) (h : k < r.length) : atI (r.map V.int) z = some (.int (r.getD k 0)) := by
  refine at_of e ?_
  rw [List.getElem?_map, List.getElem?_eq_getElem h, List.getD_eq_getElem?_getD, List.getElem?_eq_getElem h]
  rfl
/-- the last item -/
theorem at_end {r : List Int} (h : 0 < r.length) : atI (r.map V.int) (-1) = some (.int (r.getD (r.length - 1) 0)) := by
  have hne : r ≠ [] := fun e => by
    subst e
    exact absurd h (Nat.lt_irrefl 0)
  have e := List.dropLast_concat_getLast hne
  have q : r.map V.int = r.dropLast.map V.int ++ [.int (r.getLast hne)] := by
    rw [← List.map_singleton, ← List.map_append, e]
  rw [q, atI_last, List.getD_eq_getElem?_getD, List.getElem?_eq_getElem (by omega), List.getLast_eq_getElem]
  rfl
theorem at_lastN {xs : List V} {n : Nat} {v : V} (hl : xs.length = n + 1) (hv : xs[n]? = some v) : atI xs (-1) = some v := by
  have e : ixN xs.length (-1) = some n := by
    unfold ixN
    rw [hl, if_neg (by decide), if_pos (by omega)]
    congr 1
    omega
  unfold atI
  rw [e]
  exact hv
theorem ixN_nat {n k : Nat} (h : k < n) : ixN n (k : Int) = some k := by
  unfold ixN
  rw [if_pos (by omega), if_pos (by omega)]
  congr 1
theorem tyes {σ : L2.St} {H : Hp} {F G : Hp → Prop} (h : F H) : tYes σ H (fun b H3 => if b = true then F H3 else G H3) := by
  show if true = true then F H else G H
  rw [if_pos rfl]
  exact h
/-! ### tuples: a slice, a sum: some tuple of those items -/
section
variable {X : Cx}
def rSlB (K : PySem.W.Frag) : V → Option Int → Option Int → Hp → VK → Prop := fun x lo hi H Q => ∃ a xs, x = .ref a ∧ SqT K H a xs ∧ ∀ p H', Same H H' → SqT K H' p (cutV xs lo hi) → Q (.ref p) H'
theorem cutV_whole {xs : List V} {lo hi : Option Int} (h : HT.sIx xs.length 0 lo = 0 ∧ HT.sIx xs.length xs.length hi = xs.length) : cutV xs lo hi = xs := by
  unfold cutV
  rw [h.1, h.2, List.drop_zero, Nat.sub_zero, List.take_length]
theorem sl_tupB : SlR X (rSlB X.K) := by
  intro pins s σ H x v vl vu lo hi sl Q I rx hs pl pu h
  obtain ⟨a, xs, rfl, hx, q⟩ := h
  exact sl_tupA pins s σ H _ v vl vu lo hi sl Q I rx hs pl pu ⟨a, xs, rfl, hx, fun z => q a H (Same.refl H) (by rw [cutV_whole z]; exact hx), fun _ p hp => q p _ (same_new hp) (SqT.of upd_same)⟩
def rCatB (K : PySem.W.Frag) : R2 := fun x y H Q => ∃ a b xs ys, x = .ref a ∧ y = .ref b ∧ SqT K H a xs ∧ SqT K H b ys ∧ xs.length + ys.length ≤ sizeLine ∧ ∀ p H', Same H H' → SqT K H' p (xs ++ ys) → Q (.ref p) H'
theorem op_catB : OpR X (binaryOp .Add) (rCatB X.K) := by
  intro pins s σ H x y v u Q I rx ry h
  obtain ⟨a, b, xs, ys, rfl, rfl, ha, hb, hz, q⟩ := h
  exact op_catA pins s σ H _ _ v u Q I rx ry ⟨a, b, xs, ys, rfl, rfl, ha, hb, hz, fun z => q b H (Same.refl H) (by rw [z]; exact hb), fun _ z => q a H (Same.refl H) (by rw [z, List.append_nil]; exact ha), fun _ _ p hp => q p _ (same_new hp) (SqT.of upd_same)⟩
theorem cut_to (xs : List V) (k : Nat) : cutV xs none (some (k : Int)) = xs.take k := by
  unfold cutV
  rw [HT.sIx_none, HT.sIx_nat, List.drop_zero, Nat.sub_zero]
  by_cases h : k ≤ xs.length
  · rw [Nat.min_eq_left h]
  · rw [Nat.min_eq_right (by omega), List.take_length, List.take_of_length_le (by omega)]
theorem cut_from (xs : List V) (k : Nat) : cutV xs (some (k : Int)) none = xs.drop k := by
  unfold cutV
  rw [HT.sIx_none, HT.sIx_nat]
  have h : ∀ j : Nat, (xs.drop j).take (xs.length - j) = xs.drop j := fun j => List.take_of_length_le (by rw [List.length_drop]; omega)
  by_cases c : k ≤ xs.length
  · rw [Nat.min_eq_left c, h]
  · rw [Nat.min_eq_right (by omega), h, List.drop_of_length_le (Nat.le_refl _), List.drop_of_length_le (by omega)]
end
/-! ### names for the readings of len, list, tuple -/
def rLen (K : PySem.W.Frag) : List V → Hp → VK → Prop := fun xs H Q => ∃ p ys, xs = [.ref p] ∧ (SqL K H p ys ∨ SqT K H p ys) ∧ Q (.int ys.length) H
theorem call_lenK {X : Cx} : CallR X (.builtin "len") (rLen X.K) := call_len_seq
def rListOf (K : PySem.W.Frag) : List V → Hp → VK → Prop := fun xs H Q => ∃ p ys, xs = [.ref p] ∧ (SqL K H p ys ∨ SqT K H p ys) ∧ ∀ l, H l = none → Q (.ref l) (upd H l (.lst ys))
theorem call_listK {X : Cx} : CallR X (.type "list") (rListOf X.K) := call_list_of
def rTupOf (K : PySem.W.Frag) : List V → Hp → VK → Prop := fun xs H Q => ∃ p ys, xs = [.ref p] ∧ ((SqL K H p ys ∧ ∀ l, H l = none → Q (.ref l) (upd H l (.tup ys))) ∨ (SqT K H p ys ∧ Q (.ref p) H))
theorem call_tupK {X : Cx} : CallR X (.type "tuple") (rTupOf X.K) := call_tuple_of
/-! ### lists and tuples alike -/
abbrev SqX (K : PySem.W.Frag) (H : Hp) (a : Addr) (xs : List V) : Prop := SqL K H a xs ∨ SqT K H a xs
theorem seqX_same {K : PySem.W.Frag} {H H' : Hp} {a : Addr} {xs : List V} (e : Same H H') (h : SqX K H a xs) : SqX K H' a xs := h.elim (fun z => Or.inl (e.seq z)) fun z => Or.inr (seqT_same e z)
section
variable {X : Cx}
def rIxX (K : PySem.W.Frag) : R2 := fun x y H Q => ∃ p xs i v, x = .ref p ∧ y = .int i ∧ SqX K H p xs ∧ atI xs i = some v ∧ Q v H
theorem ix_any : IxR X (rIxX X.K) := by
  intro value slice pins s σ H x y v u Q I rx ry h hs
  obtain ⟨p, xs, i, z, e1, e2, hq, he, q⟩ := h
  rcases hq with hq | hq
  · exact ix_list value slice pins s σ H x y v u Q I rx ry ⟨p, xs, i, z, e1, e2, hq, he, q⟩ hs
  · exact ix_tup value slice pins s σ H x y v u Q I rx ry ⟨p, xs, i, z, e1, e2, hq, he, q⟩ hs
end
/-- what isinstance asks of a tuple, of a list -/
theorem tyx_tup {K : PySem.W.Frag} {H : Hp} {a : Addr} {xs : List V} (h : SqT K H a xs) : TyX K H (.ref a) (.type "tuple") := by
  rcases h with (h | ⟨o, h⟩) | ⟨o, _, _, h, c, _⟩
  · exact .base (.tup h)
  · exact .fTuple h
  · exact .kTuple h c
theorem tyx_lst {K : PySem.W.Frag} {H : Hp} {a : Addr} {xs : List V} (h : SqL K H a xs) : TyX K H (.ref a) (.type "list") := by
  rcases h with (h | ⟨o, h⟩) | ⟨o, _, _, h, c, _⟩
  · exact .base (.lst h)
  · exact .base (.frz h)
  · exact .kList h c
/-- two values alike, tuples within tuples to the depth n -/
def Alike (K : PySem.W.Frag) (H : Hp) : Nat → V → V → Prop
  | 0, x, y => ∃ z, x = .int z ∧ y = .int z
  | n + 1, x, y => (∃ z, x = .int z ∧ y = .int z) ∨ ∃ a b xs ys, x = .ref a ∧ y = .ref b ∧ SqT K H a xs ∧ SqT K H b ys ∧ xs.length = ys.length ∧ xs.length ≤ 1000 ∧ ∀ (i : Nat) (u v : V), xs[i]? = some u → ys[i]? = some v → Alike K H n u v
theorem Alike.on {K : PySem.W.Frag} {H H' : Hp} (e : Same H H') : ∀ {n : Nat} {x y : V}, Alike K H n x y → Alike K H' n x y
  | 0, _, _, h => h
  | n + 1, _, _, Or.inl h => Or.inl h
  | n + 1, _, _, Or.inr ⟨a, b, xs, ys, h1, h2, h3, h4, h5, h6, h7⟩ => Or.inr ⟨a, b, xs, ys, h1, h2, seqT_same e h3, seqT_same e h4, h5, h6, fun i u v z1 z2 => Alike.on e (h7 i u v z1 z2)⟩
theorem alike_ints {K : PySem.W.Frag} {H : Hp} {a b : Addr} {r : List Int} (h1 : SqT K H a (r.map V.int)) (h2 : SqT K H b (r.map V.int)) (hl : r.length ≤ 1000) : Alike K H 1 (.ref a) (.ref b) := by
  refine Or.inr ⟨a, b, _, _, rfl, rfl, h1, h2, rfl, by rw [List.length_map]; exact hl, fun i u v z1 z2 => ?_⟩
  have e : u = v := Option.some.inj (z1.symm.trans z2)
  subst e
  rw [List.getElem?_map] at z1
  cases q : r[i]? with
  | none =>
    rw [q] at z1
    cases z1
  | some z =>
    rw [q] at z1
    exact ⟨z, (Option.some.inj z1).symm, (Option.some.inj z1).symm⟩
/-- tuples of ints, each by its address -/
def TupsAt (K : PySem.W.Frag) (H : Hp) (ts : List Addr) (rs : List (List Int)) : Prop := ts.length = rs.length ∧ ∀ (i : Nat) (t : Addr) (r : List Int), ts[i]? = some t → rs[i]? = some r → SqT K H t (r.map V.int)
theorem TupsAt.on {K : PySem.W.Frag} {H H' : Hp} {ts : List Addr} {rs : List (List Int)} (h : TupsAt K H ts rs) (e : Same H H') : TupsAt K H' ts rs := ⟨h.1, fun i t r a b => seqT_same e (h.2 i t r a b)⟩
theorem TupsAt.one {K : PySem.W.Frag} {H : Hp} {t : Addr} {r : List Int} (h : SqT K H t (r.map V.int)) : TupsAt K H [t] [r] := ⟨rfl, fun i t' r' a b => by
  rcases i with _ | i
  · have e1 : t = t' := Option.some.inj a
    have e2 : r = r' := Option.some.inj b
    subst e1 e2
    exact h
  · cases a⟩
theorem TupsAt.wr {K : PySem.W.Frag} {H : Hp} {l : Addr} {xs zs : List V} {ts : List Addr} {rs : List (List Int)} (h : TupsAt K H ts rs) (hl : H l = some (.lst xs)) : TupsAt K (upd H l (.lst zs)) ts rs := ⟨h.1, fun i t r a b => seqT_wr hl (h.2 i t r a b)⟩
theorem TupsAt.push {K : PySem.W.Frag} {H : Hp} {ts : List Addr} {rs : List (List Int)} {t : Addr} {r : List Int} (h : TupsAt K H ts rs) (ht : SqT K H t (r.map V.int)) : TupsAt K H (ts ++ [t]) (rs ++ [r]) := by
  refine ⟨by rw [List.length_append, List.length_append, h.1]; rfl, fun i t' r' a b => ?_⟩
  by_cases c : i < ts.length
  · rw [List.getElem?_append_left c] at a
    rw [List.getElem?_append_left (by rw [← h.1]; exact c)] at b
    exact h.2 i t' r' a b
  · rw [List.getElem?_append_right (by omega)] at a
    rw [List.getElem?_append_right (by rw [← h.1]; omega)] at b
    have c0 : i - ts.length = 0 := by
      have := (List.getElem?_eq_some_iff.mp a).1
      rw [List.length_singleton] at this
      omega
    rw [c0] at a
    rw [← h.1, c0] at b
    have e1 : t = t' := Option.some.inj a
    have e2 : r = r' := Option.some.inj b
    subst e1 e2
    exact ht
theorem tups_at {ts : List Addr} {i : Nat} {u : V} (h : (ts.map V.ref)[i]? = some u) : ∃ t, ts[i]? = some t ∧ u = .ref t := by
  rw [List.getElem?_map] at h
  cases q : ts[i]? with
  | none =>
    rw [q] at h
    cases h
  | some t =>
    rw [q] at h
    exact ⟨t, rfl, (Option.some.inj h).symm⟩
theorem alike_tups {K : PySem.W.Frag} {H : Hp} {ts us : List Addr} {rs : List (List Int)} (h1 : TupsAt K H ts rs) (h2 : TupsAt K H us rs) (hz : ∀ r ∈ rs, r.length ≤ 1000) {i : Nat} {u v : V} (z1 : (ts.map V.ref)[i]? = some u) (z2 : (us.map V.ref)[i]? = some v) : Alike K H 1 u v := by
  obtain ⟨t, e1, rfl⟩ := tups_at z1
  obtain ⟨t', e2, rfl⟩ := tups_at z2
  have hi : i < rs.length := by
    rw [← h1.1]
    exact (List.getElem?_eq_some_iff.mp e1).1
  have e3 := List.getElem?_eq_getElem hi
  exact alike_ints (h1.2 i t _ e1 e3) (h2.2 i t' _ e2 e3) (hz _ (List.getElem_mem hi))
/-- the list of ints at p against a written one -/
theorem eqv_ints : ∀ (xs ys : List Int), PyData.eqvAll (xs.map PyData.int) (ys.map PyData.int) = decide (xs = ys)
  | [], [] => rfl
  | [], _ :: _ => rfl
  | _ :: _, [] => rfl
  | x :: xs, y :: ys => by
    show ((x == y) && PyData.eqvAll (xs.map PyData.int) (ys.map PyData.int)) = decide (x :: xs = y :: ys)
    rw [eqv_ints xs ys]
    exact Bool.eq_iff_iff.mpr (by simp)
theorem dpAll_ints {K : PySem.W.Frag} {H : Hp} : ∀ xs : List Int, DpAll K H (xs.map V.int) (xs.map PyData.int)
  | [] => .nil
  | x :: xs => .cons (.int x) (dpAll_ints xs)
theorem dp_lst {K : PySem.W.Frag} {H : Hp} {p : Addr} {xs : List Int} (h : SqL K H p (xs.map V.int)) : Dp K H (.ref p) (.list (xs.map PyData.int)) := .lst h (dpAll_ints xs)
theorem depth_all : ∀ xs : List Int, PyData.depthAll (xs.map PyData.int) = 0 ∧ PyData.canLayAll0 (xs.map PyData.int) = true
  | [] => ⟨rfl, rfl⟩
  | x :: xs => by
    obtain ⟨h1, h2⟩ := depth_all xs
    refine ⟨?_, ?_⟩
    · show max (PyData.depth (.int x)) (PyData.depthAll (xs.map PyData.int)) = 0
      rw [h1]
      rfl
    · show (PyData.canLay0 (.int x) && PyData.canLayAll0 (xs.map PyData.int)) = true
      rw [h2]
      rfl
theorem shaped_lst (xs : List Int) : SeqAt.shaped (.list (xs.map PyData.int)) = true := by
  obtain ⟨h1, h2⟩ := depth_all xs
  show (PyData.canLayAll0 (xs.map PyData.int) && decide (PyData.depthAll (xs.map PyData.int) + 1 ≤ 64)) = true
  rw [h1, h2]
  rfl
theorem shaped_tup (xs : List Int) : SeqAt.shaped (.tuple (xs.map PyData.int)) = true := shaped_lst xs
/-! ### range(a, b) walked where an exception is held -/
theorem pi_range2H {X : Cx} {tg a b : Expr} {ta : TA} {p pos : Pos} (hg : Gl X "range") (hm : X.mg "range" = none) (ha : PA X [a, b] ta)
    (hs : starEach [a, b] X.env = [(false, eval a X.env), (false, eval b X.env)] := by rfl) (hs2 : starEach [b] X.env = [(false, eval b X.env)] := by rfl) :
    L2H.PIH X tg (.Call (.Name "range" p) [a, b] [] pos) (iRng2 ta) := by
  refine ⟨fun pins s σ H R I h => Call_ (ld_blt I hg hm boot_range (PyProof.Rows.callWith_type1 (thn (ha.run pos pins s σ H _ I h) fun us s1 ⟨vs, H1, J, r1, z⟩ => ?_) (by rw [hs, hs2]) (by rw [hs2]; rfl)))⟩
  obtain ⟨i, j, rfl, ⟨z1, z2, z3, z4⟩, q⟩ := z
  obtain ⟨u1, u2, rfl, ⟨t1, rfl⟩, ⟨t2, rfl⟩⟩ := vals2 r1
  exact call_range_2 (L2H.range_itH J z1 z2 z3 z4 q)
/-! ### within an except suite -/
theorem hot_suite {X : Cx} {a : Addr} {oe : Obj} {cls : Value} {d : Option Addr} {pn : List (Addr × Obj)} (hz : L2N.Zn cls d oe) (hf : ∃ vs, oe.data = .fields vs) : L2H.Hot1 (X.suite a pn).A (a, oe) := by
  obtain ⟨vs, e⟩ := hf
  exact ⟨rfl, vs, e, hz.2.2 vs e⟩
theorem roomS {X : Cx} {k : Nat} {a : Addr} {pn : List (Addr × Obj)} (r : Room k X.A) : L2H.RoomH k (X.suite a pn).A := ⟨r.dp, r.un⟩
theorem passE0 {X : Cx} {σ : L2.St} {E : XK} : PassesAt CX0 X σ E := fun _ _ _ _ _ _ h => h.elim
end HL


namespace HL
open PySem PySem.Spec PyProof.Rows L2
/-- xs[i] as the left side of xs[i] += e reads it -/
theorem get_list {X : Cx} : PGet X (rIxL X.K) := by
  intro pins s σ H o i ov iv Q I ro ri h
  obtain ⟨p, xs, i, z, rfl, rfl, hq, he, q⟩ := h
  cases ro
  obtain ⟨t, rfl⟩ := ri
  obtain ⟨its, r, pl, hz⟩ := I.list hq
  obtain ⟨j, h1, h2, h3, h4, h5⟩ := atI_get he
  obtain ⟨w, ew, rw'⟩ := r.get h2
  have hl := r.length
  have hn := line63
  have fin : EP X pins σ Q w s := ⟨z, H, I, rw', q⟩
  by_cases h0 : 0 ≤ i
  · have hj : i.toNat = j := by
      rw [seqIndex_of h0 h5] at h1
      exact Option.some.inj h1
    exact wpAny_getItem_list pl.isList h0 (by omega) (by rw [hj]; simpa using ew) fin
  · have hj : (i + (its.toArray.size : Int)).toNat = j := by
      rw [seqIndex_neg (by omega) h4] at h1
      rw [List.size_toArray, ← hl]
      exact Option.some.inj h1
    exact wpAny_getItem_list_neg pl.isList (by omega) (by rw [List.size_toArray] <;> omega) (by omega) (by rw [hj]; simpa using ew) fin
end HL
namespace HR
open PySem PySem.Spec PyProof.Rows L2 HL
/-! ### orders as lists of ints -/
def ordV (ks : List Nat) : List V := ks.map fun k : Nat => V.int (k : Int)
theorem ordV_len (ks : List Nat) : (ordV ks).length = ks.length := List.length_map ..
theorem ordV_snoc (ks : List Nat) (k : Nat) : ordV (ks ++ [k]) = ordV ks ++ [V.int (k : Int)] := by
  unfold ordV
  rw [List.map_append]
  rfl
theorem ordV_ints (ks : List Nat) : ordV ks = (ks.map fun k : Nat => (k : Int)).map V.int := by
  unfold ordV
  rw [List.map_map]
  rfl
theorem ordV_at {ks : List Nat} {z : Int} {k : Nat} (e : z = (k : Int)) (h : k < ks.length) : atI (ordV ks) z = some (.int (ks.getD k 0 : Nat)) := by
  refine at_of e ?_
  unfold ordV
  rw [List.getElem?_map, List.getElem?_eq_getElem h, List.getD_eq_getElem?_getD, List.getElem?_eq_getElem h]
  rfl
theorem ordV_get {ks : List Nat} {i : Nat} {v : V} (h : (ordV ks)[i]? = some v) : ∃ k, ks[i]? = some k ∧ v = .int (k : Int) := by
  unfold ordV at h
  rw [List.getElem?_map] at h
  cases e : ks[i]? with
  | none =>
    rw [e] at h
    cases h
  | some k =>
    rw [e] at h
    exact ⟨k, rfl, (Option.some.inj h).symm⟩
theorem ints_get {zs : List Int} {i : Nat} {v : V} (h : (zs.map V.int)[i]? = some v) : ∃ z, zs[i]? = some z ∧ v = .int z := by
  rw [List.getElem?_map] at h
  cases e : zs[i]? with
  | none =>
    rw [e] at h
    cases h
  | some k =>
    rw [e] at h
    exact ⟨k, rfl, (Option.some.inj h).symm⟩
def ableV (r : List Int) : List V := ordV (able r)
theorem ableV_len (r : List Int) : (ableV r).length = (able r).length := ordV_len _
def ableTo (r : List Int) (i : Nat) : List V := ((List.range i).filter (may r)).map fun k : Nat => V.int (k : Int)
theorem ableTo_len (r : List Int) (i : Nat) : (ableTo r i).length ≤ i := by
  unfold ableTo
  rw [List.length_map]
  exact Nat.le_trans (List.length_filter_le _ _) (by rw [List.length_range]; exact Nat.le_refl i)
theorem able_le (r : List Int) : (able r).length ≤ r.length := by
  have := ableTo_len r r.length
  unfold ableTo at this
  rw [List.length_map] at this
  exact this
theorem ableTo_yes {r : List Int} {i : Nat} (h : may r i = true) : ableTo r (i + 1) = ableTo r i ++ [V.int (i : Int)] := by
  unfold ableTo
  rw [range_fil_yes h, List.map_append]
  rfl
theorem ableTo_no {r : List Int} {i : Nat} (h : may r i = false) : ableTo r (i + 1) = ableTo r i := by
  unfold ableTo
  rw [range_fil_no h]
theorem inV_able (r : List Int) (k : Nat) : inV (.int (k : Int)) (ableV r) = decide (k ∈ able r) := by
  unfold inV ableV ordV
  rw [List.any_map]
  refine Bool.eq_iff_iff.mpr ?_
  rw [List.any_eq_true, decide_eq_true_iff]
  constructor
  · rintro ⟨j, hj, e⟩
    have e2 : ((j : Int) == (k : Int)) = true := e
    have e3 : j = k := by
      have := eq_of_beq e2
      omega
    rw [← e3]
    exact hj
  · intro h
    refine ⟨k, h, ?_⟩
    show ((k : Int) == (k : Int)) = true
    simp
theorem flat_able (r : List Int) : (ableV r).all flatV = true := by
  rw [List.all_eq_true]
  intro v hv
  unfold ableV ordV at hv
  obtain ⟨k, _, rfl⟩ := List.mem_map.mp hv
  rfl
theorem dec_int2 (i j : Int) : decide (V.int i = V.int j) = decide (i = j) := Bool.eq_iff_iff.mpr (by simp)
theorem dec_nat (i j : Nat) : decide (V.int (i : Int) = V.int (j : Int)) = decide (i = j) := by
  rw [dec_int2]
  exact Bool.eq_iff_iff.mpr (by simp; omega)
/-! ### an order drawn by numbers -/
/-- the place among n, by the numbers zs, at the step i -/
def place (zs : List Int) (i n : Nat) : Nat := if zs = [] then 0 else (zs.getD (i % zs.length) 0 % (n : Int)).toNat
theorem place_lt (zs : List Int) (i : Nat) {n : Nat} (h : 0 < n) : place zs i n < n := by
  unfold place
  split
  · exact h
  · have a := Int.emod_nonneg (zs.getD (i % zs.length) 0) (b := (n : Int)) (by omega)
    have b := Int.emod_lt_of_pos (zs.getD (i % zs.length) 0) (b := (n : Int)) (by omega)
    omega
/-- the one of ks that steps -/
def choose (zs : List Int) (i : Nat) (ks : List Nat) : Nat := ks.getD (place zs i ks.length) 0
theorem choose_mem {zs : List Int} {i : Nat} {ks : List Nat} (h : 0 < ks.length) : choose zs i ks ∈ ks := by
  have z := place_lt zs i h
  unfold choose
  rw [List.getD_eq_getElem?_getD, List.getElem?_eq_getElem z]
  exact List.getElem_mem z
/-- the first n machines that step -/
def draw (m : Int) (zs : List Int) (r : List Int) : Nat → List Nat
  | 0 => []
  | n + 1 => draw m zs r n ++ [choose zs n (able (run m r (draw m zs r n)))]
theorem draw_len (m : Int) (zs r : List Int) : ∀ n, (draw m zs r n).length = n
  | 0 => rfl
  | n + 1 => by
    show (draw m zs r n ++ _).length = n + 1
    rw [List.length_append, draw_len m zs r n]
    rfl
theorem draw_succ (m : Int) (zs r : List Int) (n : Nat) : draw m zs r (n + 1) = draw m zs r n ++ [choose zs n (able (run m r (draw m zs r n)))] := rfl
theorem choose_able {n : Nat} {m : Int} {r : List Int} (g : Good n m r) (zs : List Int) (i : Nat) : choose zs i (able r) ∈ able r := by
  have := g.len
  have := g.n2
  exact choose_mem (able_pos (by omega))
theorem draw_legal {n : Nat} {m : Int} {r : List Int} (g : Good n m r) (zs : List Int) : ∀ i, legal m r (draw m zs r i)
  | 0 => trivial
  | i + 1 => legal_snoc.mpr ⟨draw_legal g zs i, choose_able g.run zs i⟩
theorem draw_take (m : Int) (zs r : List Int) (i : Nat) : ∀ d, ∃ ks, draw m zs r (i + d) = draw m zs r i ++ ks ∧ ks.length = d
  | 0 => ⟨[], by rw [List.append_nil]; rfl, rfl⟩
  | d + 1 => by
    obtain ⟨ks, e, l⟩ := draw_take m zs r i d
    refine ⟨ks ++ [choose zs (i + d) (able (run m r (draw m zs r (i + d))))], ?_, by rw [List.length_append, l]; rfl⟩
    show draw m zs r (i + d) ++ _ = _
    rw [← List.append_assoc, ← e]
    rfl
/-- the first healed ring of a drawn order is one alone -/
theorem draw_one {m : Int} {zs r : List Int} {i j : Nat} (si : sick m r (draw m zs r i)) (sj : sick m r (draw m zs r j)) (hi : (able (run m r (draw m zs r i))).length = 1) (hj : (able (run m r (draw m zs r j))).length = 1) : i = j := by
  have half : ∀ {i j : Nat}, (able (run m r (draw m zs r i))).length = 1 → sick m r (draw m zs r j) → j ≤ i := fun {i j} hi sj => by
    by_cases c : j ≤ i
    · exact c
    · obtain ⟨ks, e, l⟩ := draw_take m zs r i (j - i)
      rw [show i + (j - i) = j by omega] at e
      rw [e] at sj
      have s2 := (sick_append.mp sj).2
      cases ks with
      | nil =>
        have : (0 : Nat) = j - i := l
        omega
      | cons k ks => exact absurd hi s2.1
  have a := half hi sj
  have b := half hj si
  omega
/-! ### what is never refused -/
theorem Good.no {n : Nat} {m : Int} {r : List Int} (g : Good n m r) {P : Nat → Prop} : ∀ j, refuse r m = some j → P j := fun j hj => nomatch ((good_refuse g).symm.trans hj)
theorem at_no {r : List Int} {k : Nat} (h : k ∈ able r) : refuseAt r (k : Int) = none := by
  obtain ⟨h1, h2⟩ := mem_able.mp h
  unfold refuseAt
  rw [if_neg (by omega)]
  have t : ((k : Int)).toNat = k := rfl
  rw [t, if_pos h2]
theorem at_go {r : List Int} {k : Nat} (h : k ∈ able r) {P : Nat → Prop} : ∀ j, refuseAt r (k : Int) = some j → P j := fun j hj => nomatch ((at_no h).symm.trans hj)
theorem alike_ord {K : PySem.W.Frag} {H : Hp} (ks : List Nat) (i : Nat) (u v : V) (h1 : (ordV ks)[i]? = some u) (h2 : (ordV ks)[i]? = some v) : Alike K H 0 u v := by
  have e : u = v := Option.some.inj (h1.symm.trans h2)
  subst e
  obtain ⟨k, _, rfl⟩ := ordV_get h1
  exact ⟨k, rfl, rfl⟩
theorem alike_int0 {K : PySem.W.Frag} {H : Hp} (zs : List Int) (i : Nat) (u v : V) (h1 : (zs.map V.int)[i]? = some u) (h2 : (zs.map V.int)[i]? = some v) : Alike K H 0 u v := by
  have e : u = v := Option.some.inj (h1.symm.trans h2)
  subst e
  obtain ⟨k, _, rfl⟩ := ints_get h1
  exact ⟨k, rfl, rfl⟩
/-! ### in turn -/
def turnL (n f i : Nat) : List Nat := (List.range i).map fun j => (f + j) % n
theorem turnL_len (n f i : Nat) : (turnL n f i).length = i := by unfold turnL; rw [List.length_map, List.length_range]
theorem turnL_succ (n f i : Nat) : turnL n f (i + 1) = turnL n f i ++ [(f + i) % n] := by
  unfold turnL
  rw [range_map_succ]
theorem succ_mod {n x : Nat} (n2 : 2 ≤ n) : succ n (x % n) = (x + 1) % n := by
  have lt := Nat.mod_lt x (show n > 0 by omega)
  unfold succ
  rw [Nat.add_mod, Nat.mod_eq_of_lt (show 1 < n by omega)]
  split
  · rename_i h
    rw [h, Nat.mod_self]
  · exact (Nat.mod_eq_of_lt (by omega)).symm
theorem turn_run {n : Nat} {m : Int} {r : List Int} {f : Nat} (g : Good n m r) (h : able r = [f]) : ∀ i, able (run m r (turnL n f i)) = [(f + i) % n]
  | 0 => by
    have lt := able_lt (r := r) (k := f) (by rw [h]; exact List.mem_cons_self)
    rw [g.len] at lt
    show able r = _
    rw [h, Nat.add_zero, Nat.mod_eq_of_lt lt]
  | i + 1 => by
    rw [turnL_succ, run_snoc, turn_next g.run (turn_run g h i), succ_mod g.n2]
    rfl
theorem turn_legal {n : Nat} {m : Int} {r : List Int} {f : Nat} (g : Good n m r) (h : able r = [f]) : ∀ i, legal m r (turnL n f i)
  | 0 => trivial
  | i + 1 => by
    rw [turnL_succ]
    exact legal_snoc.mpr ⟨turn_legal g h i, by rw [turn_run g h i]; exact List.mem_cons_self⟩
theorem one_of_len {r : List Int} (h : (able r).length = 1) : able r = [(able r).getD 0 0] := by
  match e : able r, h with
  | [x], _ => rfl
theorem turnL_take (n f a b : Nat) : (turnL n f (a + b)).take a = turnL n f a := by
  unfold turnL
  rw [← List.map_take, List.take_range]
  congr 2
  omega
theorem turnL_add (n f a : Nat) : ∀ b, turnL n f (a + b) = turnL n f a ++ turnL n (f + a) b
  | 0 => by show turnL n f a = turnL n f a ++ []; rw [List.append_nil]
  | b + 1 => by
    rw [show a + (b + 1) = a + b + 1 by omega, turnL_succ, turnL_add n f a b, turnL_succ, List.append_assoc, show f + (a + b) = f + a + b by omega]
theorem turnL_round (n f i : Nat) : turnL n (f + n) i = turnL n f i := by
  unfold turnL
  refine List.map_congr_left fun j _ => ?_
  rw [show f + n + j = f + j + n by omega, Nat.add_mod_right]
theorem turnL_drop (n f a b : Nat) : (turnL n f (a + b)).drop a = turnL n (f + a) b := by
  rw [turnL_add]
  have := turnL_len n f a
  rw [List.drop_append, List.drop_of_length_le (by omega), this, Nat.sub_self]
  rfl
/-! ### how long till it is healed -/
theorem draw_short {n : Nat} {m : Int} {r zs : List Int} (g : Good n m r) (hm : (n : Int) ≤ m) {i : Nat} (s : sick m r (draw m zs r i)) : 2 * i ≤ 396 := by
  have := most_le g hm (draw_legal g zs i) s
  rw [draw_len] at this
  have n12 := g.n12
  have n2 := g.n2
  have e : 3 * n * (n - 1) ≤ 3 * 12 * 11 := Nat.mul_le_mul (by omega) (by omega)
  omega
theorem draw_sick {m : Int} {r zs : List Int} (i : Nat) (s : sick m r (draw m zs r i)) (h : (able (run m r (draw m zs r i))).length ≠ 1) : sick m r (draw m zs r (i + 1)) := by
  rw [draw_succ]
  exact sick_snoc.mpr ⟨s, h⟩
end HR


namespace HL
open PySem PySem.Spec PyProof.Rows L2
theorem mt_lcountK {X : Cx} {K : PySem.W.Frag} (h : X.K = K) : MtR X "list.count" (rCntI K) := h ▸ mt_lcount
/-- e.m(..) within a comprehension: the reading speaks of the written part alone -/
theorem pe_bmK {X : Cx} {K : PySem.W.Frag} {o e : Expr} {es : List Expr} {to : TE} {t : TA} {name : Str} {apos cpos : Pos} {T id : String} {r : V → List V → Hp → VK → Prop} (pa : PlainAttrs T) (slot : Slot T name id) (hty : typeOf (.builtin id) = pure (.type "method_descriptor")) (hm : MtR X id r) (ho : PE X o to) (ha : PA X (e :: es) t)
    (hK : X.K = K := by rfl) (hbase : attributeBase o name X.env (eval o X.env) = eval o X.env := by rfl)
    (hfew : ((backTo cpos (starEach (e :: es) X.env)).all (fun x => !x.1) && (backToKw cpos (keywordEach [] X.env)).all (fun x => x.1.isSome)
      && decide ((e :: es).length + ([] : List Keyword).length + (if ([] : List Keyword).isEmpty then 0 else 1) < 30)) = true := by rfl)
    (hline : (apos.endLine == cpos.line) = true := by rfl) (hs : starEach (e :: es) X.env = (false, eval e X.env) :: starEach es X.env := by rfl) (hplain : (backTo cpos (starEach es X.env)).any (·.1) = false := by rfl) :
    PE X (.Call (.Attribute o name apos) (e :: es) [] cpos) (tBM K T r to t) := hK ▸ pe_bm pa slot hty hm ho ha hbase hfew hline hs hplain
end HL


namespace HR
open PySem PySem.Spec PyProof.Rows L2 HL
theorem TupsAt.set {K : PySem.W.Frag} {H : Hp} {ts : List Addr} {rs : List (List Int)} {t : Addr} {r : List Int} (h : TupsAt K H ts rs) (k : Nat) (ht : SqT K H t (r.map V.int)) : TupsAt K H (ts.set k t) (rs.set k r) := by
  refine ⟨by rw [List.length_set, List.length_set, h.1], fun i t' r' a b => ?_⟩
  rw [List.getElem?_set] at a b
  by_cases e : k = i
  · rw [if_pos e] at a b
    split at a
    · split at b
      · have e1 := Option.some.inj a
        have e2 := Option.some.inj b
        subst e1 e2
        exact ht
      · cases b
    · cases a
  · rw [if_neg e] at a b
    exact h.2 i t' r' a b
/-- numbers and marks, by pairs -/
def pairsOf (r s : List Int) : List (List Int) := (List.range r.length).map fun i => [r.getD i 0, s.getD i 0]
theorem pairsOf_len (r s : List Int) : (pairsOf r s).length = r.length := by unfold pairsOf; rw [List.length_map, List.length_range]
theorem pairsOf_at {r : List Int} (s : List Int) {i : Nat} (h : i < r.length) : (pairsOf r s)[i]? = some [r.getD i 0, s.getD i 0] := by
  unfold pairsOf
  rw [List.getElem?_map, List.getElem?_range h]
  rfl
theorem getD_set_self {r : List Int} {k : Nat} (h : k < r.length) (x : Int) : (r.set k x).getD k 0 = x := by
  rw [List.getD_eq_getElem?_getD, List.getElem?_set_self h]
  rfl
theorem getD_set_ne {r : List Int} {k i : Nat} (h : k ≠ i) (x : Int) : (r.set k x).getD i 0 = r.getD i 0 := by
  rw [List.getD_eq_getElem?_getD, List.getD_eq_getElem?_getD, List.getElem?_set_ne h]
theorem pairsOf_set {r s : List Int} {k : Nat} (x y : Int) (h : k < r.length) (hs : s.length = r.length) : pairsOf (r.set k x) (s.set k y) = (pairsOf r s).set k [x, y] := by
  apply List.ext_getElem?
  intro i
  by_cases hi : i < r.length
  · rw [pairsOf_at _ (by rw [List.length_set]; exact hi), List.getElem?_set, pairsOf_len, pairsOf_at _ hi]
    by_cases e : k = i
    · subst e
      rw [if_pos rfl, if_pos hi, getD_set_self h, getD_set_self (by omega)]
    · rw [if_neg e, getD_set_ne e, getD_set_ne e]
  · rw [List.getElem?_eq_none (by rw [pairsOf_len, List.length_set]; omega), List.getElem?_eq_none (by rw [List.length_set, pairsOf_len]; omega)]
theorem pairsOf_succ (r s : List Int) (i : Nat) : (List.range (i + 1)).map (fun i => [r.getD i 0, s.getD i 0]) = (List.range i).map (fun i => [r.getD i 0, s.getD i 0]) ++ [[r.getD i 0, s.getD i 0]] := range_map_succ _ i
/-- the marks when one more has stepped, and how often machine 0 has -/
def tr1 (n : Nat) (p : List Int × Nat) (z : Int) : List Int × Nat := if z = 0 then (p.1.set 0 ((n : Int) + p.2), p.2 + 1) else (p.1.set z.toNat (p.1.getD (z.toNat - 1) 0), p.2)
def marks0 (n : Nat) : List Int := (List.range n).map fun k : Nat => (k : Int)
def trc (n : Nat) (zs : List Int) : List Int × Nat := zs.foldl (tr1 n) (marks0 n, 0)
theorem trc_snoc (n : Nat) (zs : List Int) (z : Int) : trc n (zs ++ [z]) = tr1 n (trc n zs) z := by
  unfold trc
  rw [List.foldl_append]
  rfl
theorem tr1_len (n : Nat) (p : List Int × Nat) (z : Int) : (tr1 n p z).1.length = p.1.length := by
  unfold tr1
  split
  · exact List.length_set
  · exact List.length_set
theorem marks0_len (n : Nat) : (marks0 n).length = n := by unfold marks0; rw [List.length_map, List.length_range]
theorem trc_len (n : Nat) (zs : List Int) : (trc n zs).1.length = n := by
  have : ∀ (zs : List Int) (p : List Int × Nat), (zs.foldl (tr1 n) p).1.length = p.1.length := by
    intro zs
    induction zs with
    | nil => intro p; rfl
    | cons z zs ih => intro p; exact (ih _).trans (tr1_len n p z)
  exact (this zs _).trans (marks0_len n)
theorem tr1_zero (n : Nat) (s : List Int) (c : Nat) : tr1 n (s, c) 0 = (s.set 0 ((n : Int) + c), c + 1) := if_pos rfl
theorem tr1_pos (n : Nat) (s : List Int) (c : Nat) {k : Nat} (h : k ≠ 0) : tr1 n (s, c) (k : Int) = (s.set k (s.getD (k - 1) 0), c) := by
  unfold tr1
  rw [if_neg (by omega)]
  rfl
theorem rgV_marks (n : Nat) : rgV 0 (n : Int) = (marks0 n).map V.int := by
  unfold rgV marks0
  rw [List.map_map, show ((n : Int) - 0).toNat = n by omega]
  refine List.map_congr_left fun k _ => ?_
  show V.int (0 + (k : Int)) = V.int (k : Int)
  rw [Int.zero_add]
/-! ### along the ring what came later stands ahead -/
def age (n v : Int) : Int := if n ≤ v then v else 0 - v
structure Marks (n : Nat) (m : Int) (r x s : List Int) (c : Nat) : Prop where
  sl : s.length = n
  bd : ∀ i, i < n → 0 ≤ s.getD i 0 ∧ s.getD i 0 < (n : Int) + c
  ag : ∀ i, 0 < i → i < n → age n (s.getD i 0) ≤ age n (s.getD (i - 1) 0)
  x0 : x.getD 0 0 = (r.getD 0 0 + (c : Int)) % m
  xs : ∀ i, i < n → x.getD i 0 = if (n : Int) ≤ s.getD i 0 then (r.getD 0 0 + 1 + s.getD i 0 - n) % m else r.getD (s.getD i 0).toNat 0
theorem marks0_at {n i : Nat} (h : i < n) : (marks0 n).getD i 0 = (i : Int) := by
  unfold marks0
  rw [List.getD_eq_getElem?_getD, List.getElem?_map, List.getElem?_range h]
  rfl
theorem marks_start {n : Nat} {m : Int} {r : List Int} (g : Good n m r) : Marks n m r r (marks0 n) 0 := by
  have h0 := g.at (k := 0) (by have := g.n2; omega)
  refine ⟨marks0_len n, fun i hi => ?_, fun i h1 h2 => ?_, ?_, fun i hi => ?_⟩
  · rw [marks0_at hi]
    omega
  · rw [marks0_at h2, marks0_at (by omega)]
    unfold age
    rw [if_neg (by omega), if_neg (by omega)]
    omega
  · simp only [Int.ofNat_zero, Int.natCast_zero, Int.add_zero]
    exact (Int.emod_eq_of_lt h0.1 h0.2).symm
  · rw [marks0_at hi, if_neg (by omega)]
    rfl
theorem marks_step {n : Nat} {m : Int} {r x s : List Int} {c k : Nat} (M : Marks n m r x s c) (n2 : 2 ≤ n) (xl : x.length = n) (hk : k < n) : Marks n m r (step m x k) (tr1 n (s, c) (k : Int)).1 (tr1 n (s, c) (k : Int)).2 := by
  have sl := M.sl
  by_cases k0 : k = 0
  · subst k0
    rw [show ((0 : Nat) : Int) = 0 from rfl, tr1_zero]
    have e0 : (s.set 0 ((n : Int) + c)).getD 0 0 = (n : Int) + c := getD_set_self (by omega) _
    have eI : ∀ i, 0 < i → (s.set 0 ((n : Int) + c)).getD i 0 = s.getD i 0 := fun i h => getD_set_ne (by omega) _
    have nx : (step m x 0).getD 0 0 = (r.getD 0 0 + ((c + 1 : Nat) : Int)) % m := by
      rw [step_self (by omega)]
      unfold nxt
      rw [if_pos rfl, M.x0, Int.emod_add_emod]
      congr 1
      push_cast
      omega
    refine ⟨by rw [List.length_set]; exact sl, fun i hi => ?_, fun i h1 h2 => ?_, nx, fun i hi => ?_⟩
    · show 0 ≤ (s.set 0 ((n : Int) + c)).getD i 0 ∧ (s.set 0 ((n : Int) + c)).getD i 0 < (n : Int) + ((c + 1 : Nat) : Int)
      by_cases i0 : i = 0
      · subst i0
        rw [e0]
        omega
      · rw [eI i (by omega)]
        have := M.bd i hi
        omega
    · show age n ((s.set 0 ((n : Int) + c)).getD i 0) ≤ age n ((s.set 0 ((n : Int) + c)).getD (i - 1) 0)
      rw [eI i h1]
      by_cases i1 : i = 1
      · subst i1
        rw [show 1 - 1 = 0 from rfl, e0]
        have := M.bd 1 h2
        unfold age
        rw [if_pos (show (n : Int) ≤ (n : Int) + c by omega)]
        split <;> omega
      · rw [eI (i - 1) (by omega)]
        exact M.ag i h1 h2
    · show _ = if (n : Int) ≤ (s.set 0 ((n : Int) + c)).getD i 0 then (r.getD 0 0 + 1 + (s.set 0 ((n : Int) + c)).getD i 0 - n) % m else r.getD ((s.set 0 ((n : Int) + c)).getD i 0).toNat 0
      by_cases i0 : i = 0
      · subst i0
        rw [e0, if_pos (by omega), nx]
        congr 1
        push_cast
        omega
      · rw [eI i (by omega), step_ne (by omega)]
        exact M.xs i hi
  · rw [tr1_pos _ _ _ k0]
    have eK : (s.set k (s.getD (k - 1) 0)).getD k 0 = s.getD (k - 1) 0 := getD_set_self (by omega) _
    have eI : ∀ i, k ≠ i → (s.set k (s.getD (k - 1) 0)).getD i 0 = s.getD i 0 := fun i h => getD_set_ne h _
    refine ⟨by rw [List.length_set]; exact sl, fun i hi => ?_, fun i h1 h2 => ?_, by rw [step_ne k0]; exact M.x0, fun i hi => ?_⟩
    · show 0 ≤ (s.set k (s.getD (k - 1) 0)).getD i 0 ∧ (s.set k (s.getD (k - 1) 0)).getD i 0 < (n : Int) + c
      by_cases e : k = i
      · subst e
        rw [eK]
        exact M.bd (k - 1) (by omega)
      · rw [eI i e]
        exact M.bd i hi
    · show age n ((s.set k (s.getD (k - 1) 0)).getD i 0) ≤ age n ((s.set k (s.getD (k - 1) 0)).getD (i - 1) 0)
      by_cases e : k = i
      · subst e
        rw [eK, eI (k - 1) (by omega)]
        exact Int.le_refl _
      · rw [eI i e]
        by_cases e2 : k = i - 1
        · rw [← e2, eK]
          have a1 := M.ag k (by omega) hk
          have a2 := M.ag i h1 h2
          rw [← e2] at a2
          exact Int.le_trans a2 a1
        · rw [eI (i - 1) e2]
          exact M.ag i h1 h2
    · show _ = if (n : Int) ≤ (s.set k (s.getD (k - 1) 0)).getD i 0 then (r.getD 0 0 + 1 + (s.set k (s.getD (k - 1) 0)).getD i 0 - n) % m else r.getD ((s.set k (s.getD (k - 1) 0)).getD i 0).toNat 0
      by_cases e : k = i
      · subst e
        rw [eK, step_self (by omega)]
        unfold nxt
        rw [if_neg k0]
        exact M.xs (k - 1) (by omega)
      · rw [eI i e, step_ne e]
        exact M.xs i hi
def castL (ks : List Nat) : List Int := ks.map fun k : Nat => (k : Int)
theorem castL_snoc (ks : List Nat) (k : Nat) : castL (ks ++ [k]) = castL ks ++ [(k : Int)] := by unfold castL; rw [List.map_append]; rfl
theorem marks_all {n : Nat} {m : Int} {r : List Int} (g : Good n m r) (ks : List Nat) : legal m r ks → Marks n m r (run m r ks) (trc n (castL ks)).1 (trc n (castL ks)).2 := by
  refine snoc_ind (P := fun ks => legal m r ks → Marks n m r (run m r ks) (trc n (castL ks)).1 (trc n (castL ks)).2) ?_ ?_ ks
  · intro _
    exact marks_start g
  · intro ks k ih hl
    obtain ⟨hl, hk⟩ := legal_snoc.mp hl
    have gl : (run m r ks).length = n := run_len.trans g.len
    have lt := able_lt hk
    rw [gl] at lt
    rw [run_snoc, castL_snoc, trc_snoc]
    exact marks_step (ih hl) g.n2 gl lt
theorem refs_at {ts : List Addr} {i : Nat} {t : Addr} {z : Int} (e : z = (i : Int)) (h : ts[i]? = some t) : atI (ts.map V.ref) z = some (.ref t) := by
  refine at_of e ?_
  rw [List.getElem?_map, h]
  rfl
/-- the i-th tuple -/
theorem tups_get {K : PySem.W.Frag} {H : Hp} {ts : List Addr} {rs : List (List Int)} (h : TupsAt K H ts rs) {i : Nat} {r : List Int} (e : rs[i]? = some r) : ∃ t, ts[i]? = some t ∧ SqT K H t (r.map V.int) := by
  have hi : i < ts.length := by
    rw [h.1]
    exact (List.getElem?_eq_some_iff.mp e).1
  exact ⟨_, List.getElem?_eq_getElem hi, h.2 i _ _ (List.getElem?_eq_getElem hi) e⟩
theorem take_getD {x : List Int} {i : Nat} (h : i < x.length) : x.take (i + 1) = x.take i ++ [x.getD i 0] := by
  have e : x[i]? = some (x.getD i 0) := by
    rw [List.getD_eq_getElem?_getD, List.getElem?_eq_getElem h]
    rfl
  exact take_snoc e
def stuckL (x : List Int) (i : Nat) : List Nat := (List.range i).filter fun k => !decide (k ∈ able x)
theorem stuckL_len (x : List Int) (i : Nat) : (stuckL x i).length ≤ i := Nat.le_trans (List.length_filter_le _ _) (by rw [List.length_range]; exact Nat.le_refl i)
theorem stuckL_yes {x : List Int} {i : Nat} (h : ¬ i ∈ able x) : stuckL x (i + 1) = stuckL x i ++ [i] := range_fil_yes (p := fun k => !decide (k ∈ able x)) (by show (!decide (i ∈ able x)) = true; rw [decide_eq_false h]; rfl)
theorem stuckL_no {x : List Int} {i : Nat} (h : i ∈ able x) : stuckL x (i + 1) = stuckL x i := range_fil_no (p := fun k => !decide (k ∈ able x)) (by show (!decide (i ∈ able x)) = false; rw [decide_eq_true h]; rfl)
/-- what one that is stuck, or isn't there, is refused with -/
theorem stuck_ref {x : List Int} {z : Int} (h : z ∈ castL (stuckL x x.length) ++ [(x.length : Int), -1]) : refuseAt x z = some (if 0 ≤ z ∧ z < x.length then 3 else 2) := by
  unfold refuseAt
  rcases List.mem_append.mp h with h | h
  · obtain ⟨k, hk, rfl⟩ := List.mem_map.mp h
    obtain ⟨h1, h2⟩ := List.mem_filter.mp hk
    have h1 := List.mem_range.mp h1
    have nm : ¬ may x k = true := fun e => by
      have : k ∈ able x := mem_able.mpr ⟨h1, e⟩
      rw [decide_eq_true this] at h2
      cases h2
    have tk : ((k : Int)).toNat = k := rfl
    rw [if_neg (by omega), tk, if_neg nm, if_pos (by omega)]
  · rcases List.mem_cons.mp h with e | h
    · subst e
      rw [if_pos (by omega), if_neg (by omega)]
    · have e := List.mem_singleton.mp h
      subst e
      rw [if_pos (by omega), if_neg (by omega)]
end HR


namespace HR
open PySem PySem.Spec PyProof.Rows L2 HL
theorem castL_len (ks : List Nat) : (castL ks).length = ks.length := by unfold castL; exact List.length_map ..
theorem castL_take (ks : List Nat) (i : Nat) : (castL ks).take i = castL (ks.take i) := by unfold castL; rw [List.map_take]
theorem path_get {m : Int} : ∀ {zs r : List Int} {i : Nat}, i ≤ zs.length → (path m r zs)[i]? = some (endOf m r (zs.take i))
  | [], r, 0, _ => rfl
  | z :: zs, r, 0, _ => rfl
  | z :: zs, r, i + 1, h => by
    show (path m (step m r z.toNat) zs)[i]? = some (endOf m (step m r z.toNat) (zs.take i))
    exact path_get (by simpa using h)
theorem legal_take {m : Int} {r : List Int} {ks : List Nat} (h : legal m r ks) (i : Nat) : legal m r (ks.take i) := by
  rw [← List.take_append_drop i ks] at h
  exact (legal_append.mp h).1
theorem end_run {m : Int} {r : List Int} {ks : List Nat} (h : legal m r ks) (i : Nat) : endOf m r ((castL ks).take i) = run m r (ks.take i) := by
  rw [castL_take]
  exact (go_of_legal (legal_take h i)).2
theorem sick_at {m : Int} {r : List Int} {ks : List Nat} (h : sick m r ks) {i : Nat} (hi : i < ks.length) : (able (run m r (ks.take i))).length ≠ 1 := by
  rw [← List.take_append_drop i ks] at h
  have h2 := (sick_append.mp h).2
  cases e : ks.drop i with
  | nil =>
    have := congrArg List.length e
    rw [List.length_drop] at this
    simp at this
    omega
  | cons k l =>
    rw [e] at h2
    exact h2.1
theorem cut_m1 (xs : List V) {n : Nat} (h : xs.length = n + 1) : cutV xs none (some (-1)) = xs.take n := by
  unfold cutV HT.sIx
  rw [List.drop_zero, h]
  congr 1
  show ((if (-1 : Int) < 0 then ((-1 : Int) + ((n + 1 : Nat) : Int)).toNat else min (-1 : Int).toNat (n + 1)) - 0) = n
  rw [if_pos (by decide)]
  omega
theorem draw_turn {n : Nat} {m : Int} {r : List Int} {f : Nat} (g : Good n m r) (h : able r = [f]) (zs : List Int) : ∀ i, draw m zs r i = turnL n f i
  | 0 => rfl
  | i + 1 => by
    rw [draw_succ, draw_turn g h zs i, turn_run g h i, turnL_succ]
    congr 2
    have z := place_lt zs i (n := 1) (by decide)
    unfold choose
    show [(f + i) % n].getD (place zs i 1) 0 = _
    rw [show place zs i 1 = 0 by omega]
    rfl
theorem turnL_low {n : Nat} : ∀ {f i : Nat}, f + i ≤ n → turnL n f i = (List.range i).map fun j => f + j := by
  intro f i h
  unfold turnL
  refine List.map_congr_left fun j hj => ?_
  have := List.mem_range.mp hj
  exact Nat.mod_eq_of_lt (by omega)
theorem turnL_perm {n f : Nat} (h : f < n) : (turnL n f n).Perm (List.range n) := by
  have e1 : turnL n f n = turnL n f (n - f) ++ turnL n (f + (n - f)) f := by
    have := turnL_add n f (n - f) f
    rw [show n - f + f = n by omega] at this
    exact this
  have e2 : turnL n (f + (n - f)) f = List.range f := by
    rw [show f + (n - f) = 0 + n by omega, turnL_round, turnL_low (by omega)]
    have : (fun j : Nat => 0 + j) = id := by funext j; exact Nat.zero_add j
    rw [this, List.map_id]
  rw [e1, e2, turnL_low (by omega)]
  have e3 : List.range n = List.range f ++ (List.range (n - f)).map fun j => f + j := by
    rw [← List.range_add]
    congr 1
    omega
  rw [e3]
  exact List.perm_append_comm
theorem sorted_uniq {n f : Nat} (h : f < n) {ns : List Int} (p : ns.Perm (castL (turnL n f n))) (s : ns.Pairwise (· ≤ ·)) : ns = castL (List.range n) := by
  have p2 : ns.Perm (castL (List.range n)) := p.trans ((turnL_perm h).map _)
  have s2 : (castL (List.range n)).Pairwise (· ≤ ·) := by
    unfold castL
    rw [List.pairwise_map]
    refine List.Pairwise.imp ?_ List.pairwise_lt_range
    intro a b hab
    omega
  exact p2.eq_of_pairwise (fun a b _ _ h1 h2 => Int.le_antisymm h1 h2) s s2
/-- the greater of two, as max tells -/
theorem mx_b {n q : Int} (n2 : 2 ≤ n) (n12 : n ≤ 12) (q2 : 2 ≤ q) (q100 : q ≤ 100) : n ≤ (if q > n then q else n) ∧ 2 ≤ (if q > n then q else n) ∧ (if q > n then q else n) ≤ 100 := by
  split <;> omega
theorem most_two {n : Int} (n2 : 2 ≤ n) (n12 : n ≤ 12) : 2 * (3 * n * (n - 1) / 2) = 3 * n * (n - 1) := by
  have : n = 2 ∨ n = 3 ∨ n = 4 ∨ n = 5 ∨ n = 6 ∨ n = 7 ∨ n = 8 ∨ n = 9 ∨ n = 10 ∨ n = 11 ∨ n = 12 := by omega
  rcases this with e | e | e | e | e | e | e | e | e | e | e <;> subst e <;> rfl
/-- point 10, as the program tells it -/
theorem most_leI {n : Int} {m : Int} {r : List Int} (g : Good n.toNat m r) (hm : ((n.toNat : Nat) : Int) ≤ m) {ks : List Nat} (hl : legal m r ks) (hs : sick m r ks) : 2 * (ks.length : Int) ≤ 3 * n * (n - 1) := by
  have h := most_le g hm hl hs
  have n2 := g.n2
  have n12 := g.n12
  obtain ⟨p, rfl⟩ : ∃ p : Nat, n = (p : Int) := ⟨n.toNat, by omega⟩
  have e : ((p : Int)).toNat = p := rfl
  rw [e] at *
  have h2 : ((2 * ks.length : Nat) : Int) ≤ ((3 * p * (p - 1) : Nat) : Int) := Int.ofNat_le.mpr h
  rw [Int.natCast_mul, Int.natCast_mul, Int.natCast_mul, Int.natCast_sub (by omega)] at h2
  exact h2
theorem mod_one (a N : Nat) : (((a % N : Nat) : Int) + 1) % (N : Int) = (((a + 1) % N : Nat) : Int) := by simp
theorem ks_lt {n : Nat} {m : Int} {r : List Int} (g : Good n m r) {ks : List Nat} (h : legal m r ks) : ∀ k ∈ ks, k < n := fun k hk => by
  have := legal_lt h k hk
  rw [g.len] at this
  exact this
end HR


namespace HL
open PySem PySem.Spec PyProof.Rows L2
/-! ### max, min of a tuple of ints -/
section
variable {prog : Program} {w : World} {A : Around} {E : Value → Shared → Prop} {s : Shared} {l : Addr} {xs : Array (Int × Tok)} {its : List Value} {ns : List Int}
theorem kept_iter {h' : Heap} {o0 : Obj} (hk : ∀ b o, b ∉ [s.heap.objs.size] → (s.heap.push o0).get? b = some o → h'.get? b = some o) :
    ∀ b o, s.heap.get? b = some o → h'.get? b = some o := fun b o e => by
  refine hk b o (fun hm => ?_) (Heap.get?_push_of_some _ e)
  rcases List.mem_cons.mp hm with e1 | hm
  · exact absurd (e1 ▸ Heap.lt_size e) (Nat.lt_irrefl _)
  · cases hm
theorem max_intTup {Q : Value → Shared → Prop} (hh : A.handled = none) (hl : s.heap.IsTuple l (intItems xs)) (hne : 0 < xs.size)
    (h : ∀ v h' tk, (intItems xs)[argBest (fun i j => decide (numAt xs i > numAt xs j)) (xs.size - 1)]? = some v → (∀ b o, s.heap.get? b = some o → h'.get? b = some o) → Q v { s with heap := h', toks := tk }) :
    wpAny (model prog w) A (call (.builtin "max") [.ref l]) Q E s := by
  have hlt : l < s.heap.objs.size := by obtain ⟨_, e, _⟩ := hl; exact Heap.lt_size e
  refine call_max_walk (wpAny_pyIter_tuple hl ?_)
  refine ⟨_, [_, l], [_], _, _, _, _, rfl, Walks.tuple (A := A.in1) hh _ l (Nat.ne_of_lt hlt) (intItems xs), ⟨⟨_, Heap.get?_push_size _ rfl, rfl, rfl⟩, hl.push _⟩, fun b hb => ?_, by simpa [intItems] using hne, CmpOf.ints_gt (numAt xs) (fun _ _ => intItems_at), fun v h' tk hP hk => ?_⟩
  · show b < (s.heap.push _).objs.size
    rw [Heap.size_push]
    rcases List.mem_cons.mp hb with rfl | hb
    · exact Nat.lt_succ_self _
    · rcases List.mem_cons.mp hb with rfl | hb
      · exact Nat.lt_succ_of_lt hlt
      · cases hb
  · exact h v h' tk (by simpa [intItems] using hP) (kept_iter hk)
theorem min_intTup {Q : Value → Shared → Prop} (hh : A.handled = none) (hl : s.heap.IsTuple l (intItems xs)) (hne : 0 < xs.size)
    (h : ∀ v h' tk, (intItems xs)[argBest (fun i j => decide (numAt xs i < numAt xs j)) (xs.size - 1)]? = some v → (∀ b o, s.heap.get? b = some o → h'.get? b = some o) → Q v { s with heap := h', toks := tk }) :
    wpAny (model prog w) A (call (.builtin "min") [.ref l]) Q E s := by
  have hlt : l < s.heap.objs.size := by obtain ⟨_, e, _⟩ := hl; exact Heap.lt_size e
  refine call_min_walk (wpAny_pyIter_tuple hl ?_)
  refine ⟨_, [_, l], [_], _, _, _, _, rfl, Walks.tuple (A := A.in1) hh _ l (Nat.ne_of_lt hlt) (intItems xs), ⟨⟨_, Heap.get?_push_size _ rfl, rfl, rfl⟩, hl.push _⟩, fun b hb => ?_, by simpa [intItems] using hne, CmpOf.ints_lt (numAt xs) (fun _ _ => intItems_at), fun v h' tk hP hk => ?_⟩
  · show b < (s.heap.push _).objs.size
    rw [Heap.size_push]
    rcases List.mem_cons.mp hb with rfl | hb
    · exact Nat.lt_succ_self _
    · rcases List.mem_cons.mp hb with rfl | hb
      · exact Nat.lt_succ_of_lt hlt
      · cases hb
  · exact h v h' tk (by simpa [intItems] using hP) (kept_iter hk)
theorem max_rawT {Q : Value → Shared → Prop} (hh : A.handled = none) (hl : s.heap.IsTuple l its.toArray) (hi : IntsAre its ns) (hne : 0 < ns.length)
    (h : ∀ h' tk M t', (∀ b o, s.heap.get? b = some o → h'.get? b = some o) → M ∈ ns → (∀ a, a ∈ ns → a ≤ M) → Q (.int M t') { s with heap := h', toks := tk }) : wpAny (model prog w) A (call (.builtin "max") [.ref l]) Q E s := by
  obtain ⟨xs, e⟩ := hi.allInts.items
  have hn : numsOf (intItems xs).toList = ns := by rw [← e]; exact hi.numsOf
  rw [nums_intItems] at hn
  subst hn
  rw [e] at hl
  have hsz : 0 < xs.size := by simpa using hne
  refine max_intTup hh hl hsz fun v h' tk hv hk => ?_
  obtain ⟨t, rfl⟩ := intItems_at hv
  obtain ⟨h1, h2⟩ := argBest_gt (numAt xs) (xs.size - 1)
  refine h h' tk _ t hk ?_ fun a ha => ?_
  · rw [numAt_eq]; exact PySem.getD_mem (by rw [List.length_map, Array.length_toList]; omega)
  · obtain ⟨j, hj, rfl⟩ := PySem.mem_getD ha
    rw [List.length_map, Array.length_toList] at hj
    rw [← numAt_eq]; exact h2 j (by omega)
theorem min_rawT {Q : Value → Shared → Prop} (hh : A.handled = none) (hl : s.heap.IsTuple l its.toArray) (hi : IntsAre its ns) (hne : 0 < ns.length)
    (h : ∀ h' tk M t', (∀ b o, s.heap.get? b = some o → h'.get? b = some o) → M ∈ ns → (∀ a, a ∈ ns → M ≤ a) → Q (.int M t') { s with heap := h', toks := tk }) : wpAny (model prog w) A (call (.builtin "min") [.ref l]) Q E s := by
  obtain ⟨xs, e⟩ := hi.allInts.items
  have hn : numsOf (intItems xs).toList = ns := by rw [← e]; exact hi.numsOf
  rw [nums_intItems] at hn
  subst hn
  rw [e] at hl
  have hsz : 0 < xs.size := by simpa using hne
  refine min_intTup hh hl hsz fun v h' tk hv hk => ?_
  obtain ⟨t, rfl⟩ := intItems_at hv
  obtain ⟨h1, h2⟩ := argBest_lt (numAt xs) (xs.size - 1)
  refine h h' tk _ t hk ?_ fun a ha => ?_
  · rw [numAt_eq]; exact PySem.getD_mem (by rw [List.length_map, Array.length_toList]; omega)
  · obtain ⟨j, hj, rfl⟩ := PySem.mem_getD ha
    rw [List.length_map, Array.length_toList] at hj
    rw [← numAt_eq]; exact h2 j (by omega)
end
section
variable {X : Cx}
def rMaxT (K : PySem.W.Frag) : List V → Hp → VK → Prop := fun vs H Q => ∃ (a : Addr) (ns : List Int), vs = [V.ref a] ∧ SqT K H a (ns.map V.int) ∧ 0 < ns.length ∧ ∀ m, m ∈ ns → (∀ y, y ∈ ns → y ≤ m) → Q (.int m) H
def rMinT (K : PySem.W.Frag) : List V → Hp → VK → Prop := fun vs H Q => ∃ (a : Addr) (ns : List Int), vs = [V.ref a] ∧ SqT K H a (ns.map V.int) ∧ 0 < ns.length ∧ ∀ m, m ∈ ns → (∀ y, y ∈ ns → m ≤ y) → Q (.int m) H
theorem cr_maxT (hc : X.calm = true) : CallR X (.builtin "max") (rMaxT X.K) := by
  intro pins s σ H vs us Q I r h
  obtain ⟨a, ns, rfl, hs, hne, q⟩ := h
  obtain ⟨its, rv, hl, _⟩ := I.tuple hs
  rw [Vals.ref1 r]
  exact max_rawT (I.ok.hd hc) hl rv.ints hne fun h' tk m t' hk h1 h2 => ⟨.int _, H, I.kept hk, ⟨_, rfl⟩, q m h1 h2⟩
theorem cr_minT (hc : X.calm = true) : CallR X (.builtin "min") (rMinT X.K) := by
  intro pins s σ H vs us Q I r h
  obtain ⟨a, ns, rfl, hs, hne, q⟩ := h
  obtain ⟨its, rv, hl, _⟩ := I.tuple hs
  rw [Vals.ref1 r]
  exact min_rawT (I.ok.hd hc) hl rv.ints hne fun h' tk m t' hk h1 h2 => ⟨.int _, H, I.kept hk, ⟨_, rfl⟩, q m h1 h2⟩
end
end HL


namespace HR
open PySem PySem.Spec PyProof.Rows L2 HL

/-! ### the text by places -/
def topAt (i : Nat) : Stmt := PySem.Challenge.pw_healring_k01_able.main.body.getD i (.Pass ⟨0, 0, 0, 0⟩)
abbrev s_check_many : Stmt := topAt 13
abbrev s_check_machines : Stmt := topAt 14
abbrev s_check_ring : Stmt := topAt 15
abbrev s_check_machine : Stmt := topAt 16
abbrev s_may_step : Stmt := topAt 17
abbrev s_taken : Stmt := topAt 18
abbrev s_after : Stmt := topAt 19
abbrev s_able : Stmt := topAt 20
abbrev s_stepped : Stmt := topAt 21
abbrev s_gone : Stmt := topAt 22
abbrev s_chosen : Stmt := topAt 24
abbrev s_drawn : Stmt := topAt 25
abbrev s_traced : Stmt := topAt 26
abbrev s_check_enough : Stmt := topAt 28
abbrev s_healed : Stmt := topAt 29
abbrev s_healing : Stmt := topAt 30
abbrev s_turns : Stmt := topAt 31
abbrev s__law_cell_at : Stmt := topAt 33
abbrev s__law_mixed : Stmt := topAt 34
abbrev s__law_size : Stmt := topAt 35
abbrev s__law_many : Stmt := topAt 36
abbrev s__law_ring : Stmt := topAt 37
abbrev s__law_able : Stmt := topAt 38
abbrev s__law_listed : Stmt := topAt 40
abbrev s__law_alike : Stmt := topAt 41
abbrev s__law_only : Stmt := topAt 42
abbrev s__law_wrong : Stmt := topAt 43
abbrev s__law_due : Stmt := topAt 44
abbrev s__law_asked : Stmt := topAt 45
abbrev s__law_told : Stmt := topAt 46
abbrev s_law : Stmt := topAt 47
theorem sc_check_many : FnScope ["many"] ["many"] (defScope s_check_many) := ⟨rfl, rfl, rfl, by decide +kernel, rfl, by decide +kernel, by decide +kernel⟩
theorem sc_check_machines : FnScope ["machines"] ["machines"] (defScope s_check_machines) := ⟨rfl, rfl, rfl, by decide +kernel, rfl, by decide +kernel, by decide +kernel⟩
theorem sc_check_ring : FnScope ["ring", "many", "number"] ["ring", "many"] (defScope s_check_ring) := ⟨rfl, rfl, rfl, by decide +kernel, rfl, by decide +kernel, by decide +kernel⟩
theorem sc_check_machine : FnScope ["machine", "machines"] ["machine", "machines"] (defScope s_check_machine) := ⟨rfl, rfl, rfl, by decide +kernel, rfl, by decide +kernel, by decide +kernel⟩
theorem sc_may_step : FnScope ["ring", "machine", "same"] ["ring", "machine"] (defScope s_may_step) := ⟨rfl, rfl, rfl, by decide +kernel, rfl, by decide +kernel, by decide +kernel⟩
theorem sc_taken : FnScope ["ring", "many", "machine", "greatest"] ["ring", "many", "machine"] (defScope s_taken) := ⟨rfl, rfl, rfl, by decide +kernel, rfl, by decide +kernel, by decide +kernel⟩
theorem sc_after : FnScope ["ring", "many", "machine"] ["ring", "many", "machine"] (defScope s_after) := ⟨rfl, rfl, rfl, by decide +kernel, rfl, by decide +kernel, by decide +kernel⟩
theorem sc_able : FnScope ["ring", "many", "machine"] ["ring", "many"] (defScope s_able) := ⟨rfl, rfl, rfl, by decide +kernel, rfl, by decide +kernel, by decide +kernel⟩
theorem sc_stepped : FnScope ["ring", "many", "machine"] ["ring", "many", "machine"] (defScope s_stepped) := ⟨rfl, rfl, rfl, by decide +kernel, rfl, by decide +kernel, by decide +kernel⟩
theorem sc_gone : FnScope ["ring", "many", "order", "rings", "machine"] ["ring", "many", "order"] (defScope s_gone) := ⟨rfl, rfl, rfl, by decide +kernel, rfl, by decide +kernel, by decide +kernel⟩
theorem sc_chosen : FnScope ["machines", "numbers", "step", "number"] ["machines", "numbers", "step"] (defScope s_chosen) := ⟨rfl, rfl, rfl, by decide +kernel, rfl, by decide +kernel, by decide +kernel⟩
theorem sc_drawn : FnScope ["ring", "many", "numbers", "steps", "order", "step", "machine"] ["ring", "many", "numbers", "steps"] (defScope s_drawn) := ⟨rfl, rfl, rfl, by decide +kernel, rfl, by decide +kernel, by decide +kernel⟩
theorem sc_traced : FnScope ["ring", "many", "order", "sources", "fresh", "machine"] ["ring", "many", "order"] (defScope s_traced) := ⟨rfl, rfl, rfl, by decide +kernel, rfl, by decide +kernel, by decide +kernel⟩
theorem sc_check_enough : FnScope ["many", "machines"] ["many", "machines"] (defScope s_check_enough) := ⟨rfl, rfl, rfl, by decide +kernel, rfl, by decide +kernel, by decide +kernel⟩
theorem sc_healed : FnScope ["ring", "many"] ["ring", "many"] (defScope s_healed) := ⟨rfl, rfl, rfl, by decide +kernel, rfl, by decide +kernel, by decide +kernel⟩
theorem sc_healing : FnScope ["ring", "many", "numbers", "order", "machine"] ["ring", "many", "numbers"] (defScope s_healing) := ⟨rfl, rfl, rfl, by decide +kernel, rfl, by decide +kernel, by decide +kernel⟩
theorem sc_turns : FnScope ["ring", "many", "first", "further"] ["ring", "many"] (defScope s_turns) := ⟨rfl, rfl, rfl, by decide +kernel, rfl, by decide +kernel, by decide +kernel⟩
theorem sc__law_cell_at : FnScope ["_law_script", "_law_k"] ["_law_script", "_law_k"] (defScope s__law_cell_at) := ⟨rfl, rfl, rfl, by decide +kernel, rfl, by decide +kernel, by decide +kernel⟩
theorem sc__law_mixed : FnScope ["_law_cell", "_law_k", "_law_one", "_law_other"] ["_law_cell", "_law_k"] (defScope s__law_mixed) := ⟨rfl, rfl, rfl, by decide +kernel, rfl, by decide +kernel, by decide +kernel⟩
theorem sc__law_size : FnScope ["_law_script"] ["_law_script"] (defScope s__law_size) := ⟨rfl, rfl, rfl, by decide +kernel, rfl, by decide +kernel, by decide +kernel⟩
theorem sc__law_many : FnScope ["_law_script", "_law_size_here", "_law_cell"] ["_law_script", "_law_size_here"] (defScope s__law_many) := ⟨rfl, rfl, rfl, by decide +kernel, rfl, by decide +kernel, by decide +kernel⟩
theorem sc__law_ring : FnScope ["_law_script", "_law_size_here", "_law_many_here", "_law_cell", "_law_way", "_law_k", "_law_at", "_law_low"] ["_law_script", "_law_size_here", "_law_many_here"] (defScope s__law_ring) := ⟨rfl, rfl, rfl, by decide +kernel, rfl, by decide +kernel, by decide +kernel⟩
theorem sc__law_able : FnScope ["_law_ring_here", "_law_found", "_law_k"] ["_law_ring_here"] (defScope s__law_able) := ⟨rfl, rfl, rfl, by decide +kernel, rfl, by decide +kernel, by decide +kernel⟩
theorem sc__law_listed : FnScope ["_law_told_here", "_law_due_here"] ["_law_told_here", "_law_due_here"] (defScope s__law_listed) := ⟨rfl, rfl, rfl, by decide +kernel, rfl, by decide +kernel, by decide +kernel⟩
theorem sc__law_alike : FnScope ["_law_told_here", "_law_due_here", "_law_k"] ["_law_told_here", "_law_due_here"] (defScope s__law_alike) := ⟨rfl, rfl, rfl, by decide +kernel, rfl, by decide +kernel, by decide +kernel⟩
theorem sc__law_only : FnScope ["_law_e", "_law_at", "_law_found"] ["_law_e", "_law_at"] (defScope s__law_only) := ⟨rfl, rfl, rfl, by decide +kernel, rfl, by decide +kernel, by decide +kernel⟩
theorem sc__law_wrong : FnScope ["_law_ring_here", "_law_many_here", "_law_cell", "_law_way", "_law_far", "_law_at"] ["_law_ring_here", "_law_many_here", "_law_cell"] (defScope s__law_wrong) := ⟨rfl, rfl, rfl, by decide +kernel, rfl, by decide +kernel, by decide +kernel⟩
theorem sc__law_due : FnScope ["_law_ring_here", "_law_many_here"] ["_law_ring_here", "_law_many_here"] (defScope s__law_due) := ⟨rfl, rfl, rfl, by decide +kernel, rfl, by decide +kernel, by decide +kernel⟩
theorem sc__law_asked : FnScope ["_law_ring_here", "_law_many_here", "_law_way", "_law_machine"] ["_law_ring_here", "_law_many_here", "_law_way", "_law_machine"] (defScope s__law_asked) := ⟨rfl, rfl, rfl, by decide +kernel, rfl, by decide +kernel, by decide +kernel⟩
theorem sc__law_told : FnScope ["_law_ring_here", "_law_many_here", "_law_way", "_law_machine", "_law_e", "_law_at"] ["_law_ring_here", "_law_many_here", "_law_way", "_law_machine"] (defScope s__law_told) := ⟨rfl, rfl, rfl, by decide +kernel, rfl, by decide +kernel, by decide +kernel⟩
theorem sc_law : FnScope ["_law_script", "_law_size_here", "_law_many_here", "_law_ring_here", "_law_due_here", "_law_machine", "_law_way"] ["_law_script"] (defScope s_law) := ⟨rfl, rfl, rfl, by decide +kernel, rfl, by decide +kernel, by decide +kernel⟩
structure Top (K : PySem.W.Frag) (mg : Str → Option Value) where
  f_check_many : Addr
  d_check_many : FuncData
  F_check_many : Fun K "check_many" "check_many" s_check_many f_check_many d_check_many
  g_check_many : mg "check_many" = some (.ref f_check_many)
  b_check_many : Binds K d_check_many ["many"] []
  f_check_machines : Addr
  d_check_machines : FuncData
  F_check_machines : Fun K "check_machines" "check_machines" s_check_machines f_check_machines d_check_machines
  g_check_machines : mg "check_machines" = some (.ref f_check_machines)
  b_check_machines : Binds K d_check_machines ["machines"] []
  f_check_ring : Addr
  d_check_ring : FuncData
  F_check_ring : Fun K "check_ring" "check_ring" s_check_ring f_check_ring d_check_ring
  g_check_ring : mg "check_ring" = some (.ref f_check_ring)
  b_check_ring : Binds K d_check_ring ["ring", "many"] []
  f_check_machine : Addr
  d_check_machine : FuncData
  F_check_machine : Fun K "check_machine" "check_machine" s_check_machine f_check_machine d_check_machine
  g_check_machine : mg "check_machine" = some (.ref f_check_machine)
  b_check_machine : Binds K d_check_machine ["machine", "machines"] []
  f_may_step : Addr
  d_may_step : FuncData
  F_may_step : Fun K "may_step" "may_step" s_may_step f_may_step d_may_step
  g_may_step : mg "may_step" = some (.ref f_may_step)
  b_may_step : Binds K d_may_step ["ring", "machine"] []
  f_taken : Addr
  d_taken : FuncData
  F_taken : Fun K "taken" "taken" s_taken f_taken d_taken
  g_taken : mg "taken" = some (.ref f_taken)
  b_taken : Binds K d_taken ["ring", "many", "machine"] []
  f_after : Addr
  d_after : FuncData
  F_after : Fun K "after" "after" s_after f_after d_after
  g_after : mg "after" = some (.ref f_after)
  b_after : Binds K d_after ["ring", "many", "machine"] []
  f_able : Addr
  d_able : FuncData
  F_able : Fun K "able" "able" s_able f_able d_able
  g_able : mg "able" = some (.ref f_able)
  b_able : Binds K d_able ["ring", "many"] []
  f_stepped : Addr
  d_stepped : FuncData
  F_stepped : Fun K "stepped" "stepped" s_stepped f_stepped d_stepped
  g_stepped : mg "stepped" = some (.ref f_stepped)
  b_stepped : Binds K d_stepped ["ring", "many", "machine"] []
  f_gone : Addr
  d_gone : FuncData
  F_gone : Fun K "gone" "gone" s_gone f_gone d_gone
  g_gone : mg "gone" = some (.ref f_gone)
  b_gone : Binds K d_gone ["ring", "many", "order"] []
  f_chosen : Addr
  d_chosen : FuncData
  F_chosen : Fun K "chosen" "chosen" s_chosen f_chosen d_chosen
  g_chosen : mg "chosen" = some (.ref f_chosen)
  b_chosen : Binds K d_chosen ["machines", "numbers", "step"] []
  f_drawn : Addr
  d_drawn : FuncData
  F_drawn : Fun K "drawn" "drawn" s_drawn f_drawn d_drawn
  g_drawn : mg "drawn" = some (.ref f_drawn)
  b_drawn : Binds K d_drawn ["ring", "many", "numbers", "steps"] []
  f_traced : Addr
  d_traced : FuncData
  F_traced : Fun K "traced" "traced" s_traced f_traced d_traced
  g_traced : mg "traced" = some (.ref f_traced)
  b_traced : Binds K d_traced ["ring", "many", "order"] []
  f_check_enough : Addr
  d_check_enough : FuncData
  F_check_enough : Fun K "check_enough" "check_enough" s_check_enough f_check_enough d_check_enough
  g_check_enough : mg "check_enough" = some (.ref f_check_enough)
  b_check_enough : Binds K d_check_enough ["many", "machines"] []
  f_healed : Addr
  d_healed : FuncData
  F_healed : Fun K "healed" "healed" s_healed f_healed d_healed
  g_healed : mg "healed" = some (.ref f_healed)
  b_healed : Binds K d_healed ["ring", "many"] []
  f_healing : Addr
  d_healing : FuncData
  F_healing : Fun K "healing" "healing" s_healing f_healing d_healing
  g_healing : mg "healing" = some (.ref f_healing)
  b_healing : Binds K d_healing ["ring", "many", "numbers"] []
  f_turns : Addr
  d_turns : FuncData
  F_turns : Fun K "turns" "turns" s_turns f_turns d_turns
  g_turns : mg "turns" = some (.ref f_turns)
  b_turns : Binds K d_turns ["ring", "many"] []
  f__law_cell_at : Addr
  d__law_cell_at : FuncData
  F__law_cell_at : Fun K "_law_cell_at" "_law_cell_at" s__law_cell_at f__law_cell_at d__law_cell_at
  g__law_cell_at : mg "_law_cell_at" = some (.ref f__law_cell_at)
  b__law_cell_at : Binds K d__law_cell_at ["_law_script", "_law_k"] []
  f__law_mixed : Addr
  d__law_mixed : FuncData
  F__law_mixed : Fun K "_law_mixed" "_law_mixed" s__law_mixed f__law_mixed d__law_mixed
  g__law_mixed : mg "_law_mixed" = some (.ref f__law_mixed)
  b__law_mixed : Binds K d__law_mixed ["_law_cell", "_law_k"] []
  f__law_size : Addr
  d__law_size : FuncData
  F__law_size : Fun K "_law_size" "_law_size" s__law_size f__law_size d__law_size
  g__law_size : mg "_law_size" = some (.ref f__law_size)
  b__law_size : Binds K d__law_size ["_law_script"] []
  f__law_many : Addr
  d__law_many : FuncData
  F__law_many : Fun K "_law_many" "_law_many" s__law_many f__law_many d__law_many
  g__law_many : mg "_law_many" = some (.ref f__law_many)
  b__law_many : Binds K d__law_many ["_law_script", "_law_size_here"] []
  f__law_ring : Addr
  d__law_ring : FuncData
  F__law_ring : Fun K "_law_ring" "_law_ring" s__law_ring f__law_ring d__law_ring
  g__law_ring : mg "_law_ring" = some (.ref f__law_ring)
  b__law_ring : Binds K d__law_ring ["_law_script", "_law_size_here", "_law_many_here"] []
  f__law_able : Addr
  d__law_able : FuncData
  F__law_able : Fun K "_law_able" "_law_able" s__law_able f__law_able d__law_able
  g__law_able : mg "_law_able" = some (.ref f__law_able)
  b__law_able : Binds K d__law_able ["_law_ring_here"] []
  f__law_listed : Addr
  d__law_listed : FuncData
  F__law_listed : Fun K "_law_listed" "_law_listed" s__law_listed f__law_listed d__law_listed
  g__law_listed : mg "_law_listed" = some (.ref f__law_listed)
  b__law_listed : Binds K d__law_listed ["_law_told_here", "_law_due_here"] []
  f__law_alike : Addr
  d__law_alike : FuncData
  F__law_alike : Fun K "_law_alike" "_law_alike" s__law_alike f__law_alike d__law_alike
  g__law_alike : mg "_law_alike" = some (.ref f__law_alike)
  b__law_alike : Binds K d__law_alike ["_law_told_here", "_law_due_here"] []
  f__law_only : Addr
  d__law_only : FuncData
  F__law_only : Fun K "_law_only" "_law_only" s__law_only f__law_only d__law_only
  g__law_only : mg "_law_only" = some (.ref f__law_only)
  b__law_only : Binds K d__law_only ["_law_e", "_law_at"] []
  f__law_wrong : Addr
  d__law_wrong : FuncData
  F__law_wrong : Fun K "_law_wrong" "_law_wrong" s__law_wrong f__law_wrong d__law_wrong
  g__law_wrong : mg "_law_wrong" = some (.ref f__law_wrong)
  b__law_wrong : Binds K d__law_wrong ["_law_ring_here", "_law_many_here", "_law_cell"] []
  f__law_due : Addr
  d__law_due : FuncData
  F__law_due : Fun K "_law_due" "_law_due" s__law_due f__law_due d__law_due
  g__law_due : mg "_law_due" = some (.ref f__law_due)
  b__law_due : Binds K d__law_due ["_law_ring_here", "_law_many_here"] []
  f__law_asked : Addr
  d__law_asked : FuncData
  F__law_asked : Fun K "_law_asked" "_law_asked" s__law_asked f__law_asked d__law_asked
  g__law_asked : mg "_law_asked" = some (.ref f__law_asked)
  b__law_asked : Binds K d__law_asked ["_law_ring_here", "_law_many_here", "_law_way", "_law_machine"] []
  f__law_told : Addr
  d__law_told : FuncData
  F__law_told : Fun K "_law_told" "_law_told" s__law_told f__law_told d__law_told
  g__law_told : mg "_law_told" = some (.ref f__law_told)
  b__law_told : Binds K d__law_told ["_law_ring_here", "_law_many_here", "_law_way", "_law_machine"] []
  f_law : Addr
  d_law : FuncData
  F_law : Fun K "law" "law" s_law f_law d_law
  t_FEWEST_MACHINES : Tok
  g_FEWEST_MACHINES : mg "FEWEST_MACHINES" = some (.int 2 t_FEWEST_MACHINES)
  t_MOST_MACHINES : Tok
  g_MOST_MACHINES : mg "MOST_MACHINES" = some (.int 12 t_MOST_MACHINES)
  t_FEWEST_NUMBERS : Tok
  g_FEWEST_NUMBERS : mg "FEWEST_NUMBERS" = some (.int 2 t_FEWEST_NUMBERS)
  t_MOST_NUMBERS : Tok
  g_MOST_NUMBERS : mg "MOST_NUMBERS" = some (.int 100 t_MOST_NUMBERS)
  c_HealError : Addr
  ex_HealError : ExT K mg c_HealError "HealError"
  c_NoNumbers : Addr
  ex_NoNumbers : ExT K mg c_NoNumbers "NoNumbers"
  c_NoRing : Addr
  ex_NoRing : ExT K mg c_NoRing "NoRing"
  c_NoMachine : Addr
  ex_NoMachine : ExT K mg c_NoMachine "NoMachine"
  c_NotNow : Addr
  ex_NotNow : ExT K mg c_NotNow "NotNow"
  c_NotHealed : Addr
  ex_NotHealed : ExT K mg c_NotHealed "NotHealed"
  c_TooGreat : Addr
  ex_TooGreat : ExT K mg c_TooGreat "TooGreat"
  fam : Fam K [c_NoNumbers, c_NoRing, c_NoMachine, c_NotNow, c_NotHealed, c_TooGreat] c_HealError
  n_ValueError : mg "ValueError" = none
  n_bool : mg "bool" = none
  n_int : mg "int" = none
  n_isinstance : mg "isinstance" = none
  n_len : mg "len" = none
  n_list : mg "list" = none
  n_max : mg "max" = none
  n_min : mg "min" = none
  n_range : mg "range" = none
  n_tuple : mg "tuple" = none
/-- the six kinds of refusal, in the order of the interface -/
def Top.cs {K : PySem.W.Frag} {mg : Str → Option Value} (T : Top K mg) : List Addr := [T.c_NoNumbers, T.c_NoRing, T.c_NoMachine, T.c_NotNow, T.c_NotHealed, T.c_TooGreat]
theorem Top.ec {K : PySem.W.Frag} {mg : Str → Option Value} (T : Top K mg) {j : Nat} {C : Addr} (h : T.cs[j]? = some C) : ExcC K C := by
  rcases j with _ | _ | _ | _ | _ | _ | j
  · have e := Option.some.inj h
    subst e
    exact T.ex_NoNumbers.ec
  · have e := Option.some.inj h
    subst e
    exact T.ex_NoRing.ec
  · have e := Option.some.inj h
    subst e
    exact T.ex_NoMachine.ec
  · have e := Option.some.inj h
    subst e
    exact T.ex_NotNow.ec
  · have e := Option.some.inj h
    subst e
    exact T.ex_NotHealed.ec
  · have e := Option.some.inj h
    subst e
    exact T.ex_TooGreat.ec
  · cases h
section
variable {P : Program} {w : World} {K : PySem.W.Frag} {mg : Str → Option Value} {base : Heap}
/-! ### _law_cell_at -/
/-- the k-th number of the script, 0 behind its end -/
def cell (ns : List Int) (k : Nat) : Int := ns.getD k 0
def sp__law_cell_at (K : PySem.W.Frag) : Sp := fun vs H Q _ => ∃ (a : Addr) (ns : List Int) (k : Int), vs = [.ref a, .int k] ∧ SqL K H a (ns.map V.int) ∧ ns.length ≤ 63 ∧ 0 ≤ k ∧ Q (.int (cell ns k.toNat)) H
theorem ok__law_cell_at (T : Top K mg) : FnOk P w K mg base CX0 1 T.f__law_cell_at T.d__law_cell_at ["_law_script", "_law_k"] (sp__law_cell_at K) := by
  refine T.F__law_cell_at.ok sc__law_cell_at (fun vs H Q E h => ?_) (fun cdv A outer s H vs Q E hr h => ?_)
  · obtain ⟨a, ns, k, rfl, hS, hl, h0, q⟩ := h
    rfl
  · obtain ⟨a, ns, k, rfl, hS, hl, h0, q⟩ := h
    refine ⟨_, (pss_cons (ps_if (pt_cmpR op_lt (pv 1) (pe_callB (r := HL.rLen K) HL.call_lenK (by rfl) T.n_len (by decide +kernel) (pa_cons (pv 0) pa_nil)) (nomark _))
      (pss_one (ps_ret (pe_ix (r := rIxL K) ix_list (pv 0) (pv 1) (fun _ _ => rfl))))
      pss_nil)
      (pss_one (ps_ret pe_int))), ?_⟩
    refine ⟨_, rfl, _, rfl, a, _, rfl, .inl hS, _, _, rfl, rfl, _, rfl, ite2 (fun c => ?_) (fun c => ?_)⟩
    · have c1 := of_decide_eq_true c
      rw [List.length_map] at c1
      have hk : k.toNat < ns.length := by omega
      refine ⟨_, rfl, _, rfl, a, _, k, .int (cell ns k.toNat), rfl, rfl, hS, at_of (j := k.toNat) (by omega) ?_, q⟩
      rw [List.getElem?_map, List.getElem?_eq_getElem hk]
      unfold cell
      rw [List.getD_eq_getElem?_getD, List.getElem?_eq_getElem hk]
      rfl
    · have c1 : ¬ k < (ns.length : Int) := fun z => c (by rw [List.length_map]; exact decide_eq_true z)
      have e : cell ns k.toNat = 0 := by
        unfold cell
        rw [List.getD_eq_getElem?_getD, List.getElem?_eq_none (by omega)]
        rfl
      rw [e] at q
      exact q

/-! ### _law_size -/
def size (ns : List Int) : Int := 2 + cell ns 0 % (6 + 5 * (if decide (cell ns 0 / 1009 % 6 = 1) = true then 1 else 0))
theorem size_b (ns : List Int) : 2 ≤ size ns ∧ size ns ≤ 12 := by
  unfold size
  split
  · have := Int.emod_nonneg (cell ns 0) (b := 6 + 5 * 1) (by decide)
    have := Int.emod_lt_of_pos (cell ns 0) (b := 6 + 5 * 1) (by decide)
    omega
  · have := Int.emod_nonneg (cell ns 0) (b := 6 + 5 * 0) (by decide)
    have := Int.emod_lt_of_pos (cell ns 0) (b := 6 + 5 * 0) (by decide)
    omega
def sp__law_size (K : PySem.W.Frag) : Sp := fun vs H Q _ => ∃ (a : Addr) (ns : List Int), vs = [.ref a] ∧ SqL K H a (ns.map V.int) ∧ ns.length ≤ 63 ∧ Q (.int (size ns)) H
theorem ok__law_size (T : Top K mg) : FnOk P w K mg base CX0 2 T.f__law_size T.d__law_size ["_law_script"] (sp__law_size K) := by
  refine T.F__law_size.ok sc__law_size (fun vs H Q E h => ?_) (fun cdv A outer s H vs Q E hr h => ?_)
  · obtain ⟨a, ns, rfl, hS, hl, q⟩ := h
    rfl
  · obtain ⟨a, ns, rfl, hS, hl, q⟩ := h
    refine ⟨_, (pss_one (ps_ret (pe_op op_add pe_int (pe_op op_mod (pe_call (ok__law_cell_at T) (hr.mono (by decide)) (by rfl) T.g__law_cell_at T.F__law_cell_at.kp T.b__law_cell_at .nil pass0 (pa_cons (pv 0) (pa_cons pe_int pa_nil))) (pe_op op_add pe_int (pe_op op_mul pe_int (pe_callTy call_int1 (by rfl) T.n_int (by decide +kernel) (pa_cons (pe_cmpR op_eq (pe_op op_mod (pe_op op_fdiv (pe_call (ok__law_cell_at T) (hr.mono (by decide)) (by rfl) T.g__law_cell_at T.F__law_cell_at.kp T.b__law_cell_at .nil pass0 (pa_cons (pv 0) (pa_cons pe_int pa_nil))) pe_int) pe_int) pe_int (nomark _)) pa_nil)))))))), ?_⟩
    refine ⟨_, rfl, a, ns, 0, rfl, hS, hl, by decide, ?_⟩
    refine ⟨_, rfl, a, ns, 0, rfl, hS, hl, by decide, _, _, rfl, rfl, ⟨by decide, by decide⟩, _, _, rfl, rfl, (by show (0 : Int) < 6; decide), rfl, .inr ⟨_, rfl, _, _, rfl, rfl, .inl ⟨by decide, by decide⟩, _, _, rfl, rfl, _, _, rfl, rfl, ?_, _, _, rfl, rfl, ?_⟩⟩
    · show (0 : Int) < 6 + 5 * (if _ then (1 : Int) else 0)
      split <;> decide
    · have e : decide (V.int (cell ns (0 : Int).toNat / 1009 % 6) = V.int 1) = decide (cell ns 0 / 1009 % 6 = 1) := by
        rw [dec_int]
        exact Bool.eq_iff_iff.mpr (by simp)
      rw [e]
      exact q

/-! ### _law_many -/
def manyL (ns : List Int) (n : Int) : List Int :=
  [n + cell ns 1 / 5 % 4, 2 + cell ns 1 / 5 % 99, n, if n - 1 > 2 then n - 1 else 2, 2 + cell ns 1 / 5 % 3]
def many (ns : List Int) (n : Int) : Int := (manyL ns n).getD (cell ns 1 % 5).toNat 0
theorem many_b (ns : List Int) (n : Int) (h2 : 2 ≤ n) (h12 : n ≤ 12) : 2 ≤ many ns n ∧ many ns n ≤ 100 := by
  have a0 := Int.emod_nonneg (cell ns 1) (b := 5) (by decide)
  have a1 := Int.emod_lt_of_pos (cell ns 1) (b := 5) (by decide)
  have all : ∀ x ∈ manyL ns n, 2 ≤ x ∧ x ≤ 100 := by
    have b0 := Int.emod_nonneg (cell ns 1 / 5) (b := 4) (by decide)
    have b1 := Int.emod_lt_of_pos (cell ns 1 / 5) (b := 4) (by decide)
    have c0 := Int.emod_nonneg (cell ns 1 / 5) (b := 99) (by decide)
    have c1 := Int.emod_lt_of_pos (cell ns 1 / 5) (b := 99) (by decide)
    have d0 := Int.emod_nonneg (cell ns 1 / 5) (b := 3) (by decide)
    have d1 := Int.emod_lt_of_pos (cell ns 1 / 5) (b := 3) (by decide)
    intro x hx
    simp only [manyL, List.mem_cons, List.not_mem_nil, or_false] at hx
    rcases hx with e | e | e | e | e
    · omega
    · omega
    · omega
    · split at e <;> omega
    · omega
  exact all _ (getD_mem (by show (cell ns 1 % 5).toNat < 5; omega))
def sp__law_many (K : PySem.W.Frag) : Sp := fun vs H Q _ => ∃ (a : Addr) (ns : List Int) (n : Int), vs = [.ref a, .int n] ∧ SqL K H a (ns.map V.int) ∧ ns.length ≤ 63 ∧ ∀ H', Same H H' → Q (.int (many ns n)) H'
theorem ok__law_many (T : Top K mg) : FnOk P w K mg base CX0 2 T.f__law_many T.d__law_many ["_law_script", "_law_size_here"] (sp__law_many K) := by
  refine T.F__law_many.ok sc__law_many (fun vs H Q E h => ?_) (fun cdv A outer s H vs Q E hr h => ?_)
  · obtain ⟨a, ns, n, rfl, hS, hl, q⟩ := h
    rfl
  · obtain ⟨a, ns, n, rfl, hS, hl, q⟩ := h
    refine ⟨_, (pss_cons (ps_set (i := 2) sc__law_many.nd rfl (by first | exact Or.inl rfl | exact Or.inr rfl) (pe_call (ok__law_cell_at T) (hr.mono (by decide)) (by rfl) T.g__law_cell_at T.F__law_cell_at.kp T.b__law_cell_at .nil pass0 (pa_cons (pv 0) (pa_cons pe_int pa_nil))))
      (pss_one (ps_ret (pe_ix (r := rIxL K) ix_list (pe_lst (pa_cons (pe_op op_add (pv 1) (pe_op op_mod (pe_op op_fdiv (pv 2) pe_int) pe_int)) (pa_cons (pe_op op_add pe_int (pe_op op_mod (pe_op op_fdiv (pv 2) pe_int) pe_int)) (pa_cons (pv 1) (pa_cons (pe_callB (call_max2 rfl) (by rfl) T.n_max (by decide +kernel) (pa_cons pe_int (pa_cons (pe_op op_sub (pv 1) pe_int) pa_nil))) (pa_cons (pe_op op_add pe_int (pe_op op_mod (pe_op op_fdiv (pv 2) pe_int) pe_int)) pa_nil)))))) (pe_op op_mod (pv 2) pe_int) (fun _ _ => rfl))))), ?_⟩
    have a0 := Int.emod_nonneg (cell ns 1) (b := 5) (by decide)
    have a1 := Int.emod_lt_of_pos (cell ns 1) (b := 5) (by decide)
    refine ⟨_, rfl, a, ns, 1, rfl, hS, hl, by decide, ?_⟩
    refine ⟨_, rfl, _, rfl, _, _, rfl, rfl, ⟨by decide, by decide⟩, _, _, rfl, rfl, (by show (0 : Int) < 4; decide), _, _, rfl, rfl, ?_⟩
    refine ⟨_, rfl, _, _, rfl, rfl, ⟨by decide, by decide⟩, _, _, rfl, rfl, (by show (0 : Int) < 99; decide), _, _, rfl, rfl, ?_⟩
    refine ⟨_, rfl, _, rfl, _, _, rfl, rfl, _, _, rfl, ?_⟩
    refine ⟨_, rfl, _, _, rfl, rfl, ⟨by decide, by decide⟩, _, _, rfl, rfl, (by show (0 : Int) < 3; decide), _, _, rfl, rfl, ?_⟩
    refine ⟨by show 5 ≤ sizeLine; rw [sizeLine_eq]; decide, fun p hp => ?_⟩
    refine ⟨_, rfl, _, _, rfl, rfl, (by show (0 : Int) < 5; decide), p, (manyL ns n).map V.int, cell ns 1 % 5, _, rfl, rfl, SqL.of upd_same, at_int (k := (cell ns 1 % 5).toNat) (by omega) (by show (cell ns 1 % 5).toNat < 5; omega), q _ (same_new hp)⟩

/-! ### _law_mixed -/
def mixOne (c k : Int) : Int := (c % 1000003 + 1) * (k * 48271 + 11) % 1000003
def mixTwo (c k : Int) : Int := (mixOne c k * mixOne c k + k * 7919 + c / 1000003) % 1000003
def mixed (c k : Int) : Int := mixTwo c k * mixTwo c k % 1000003
theorem mixOne_b (c k : Int) : 0 ≤ mixOne c k ∧ mixOne c k < 1000003 := ⟨Int.emod_nonneg _ (by decide), Int.emod_lt_of_pos _ (by decide)⟩
theorem mixTwo_b (c k : Int) : 0 ≤ mixTwo c k ∧ mixTwo c k < 1000003 := ⟨Int.emod_nonneg _ (by decide), Int.emod_lt_of_pos _ (by decide)⟩
theorem mixed_b (c k : Int) : 0 ≤ mixed c k ∧ mixed c k < 1000003 := ⟨Int.emod_nonneg _ (by decide), Int.emod_lt_of_pos _ (by decide)⟩
def sp__law_mixed : Sp := fun vs H Q _ => ∃ (c k : Int), vs = [.int c, .int k] ∧ 0 ≤ k ∧ k ≤ 1000000 ∧ Q (.int (mixed c k)) H
theorem ok__law_mixed (T : Top K mg) : FnOk P w K mg base CX0 1 T.f__law_mixed T.d__law_mixed ["_law_cell", "_law_k"] (sp__law_mixed) := by
  refine T.F__law_mixed.ok sc__law_mixed (fun vs H Q E h => ?_) (fun cdv A outer s H vs Q E hr h => ?_)
  · obtain ⟨c, k, rfl, h0, h1, q⟩ := h
    rfl
  · obtain ⟨c, k, rfl, h0, h1, q⟩ := h
    refine ⟨_, (pss_cons (ps_set (i := 2) sc__law_mixed.nd rfl (by first | exact Or.inl rfl | exact Or.inr rfl) (pe_op op_mod (pe_op op_mul (pe_op op_add (pe_op op_mod (pv 0) pe_int) pe_int) (pe_op op_add (pe_op op_mul (pv 1) pe_int) pe_int)) pe_int))
      (pss_cons (ps_set (i := 3) sc__law_mixed.nd rfl (by first | exact Or.inl rfl | exact Or.inr rfl) (pe_op op_mod (pe_op op_add (pe_op op_add (pe_op op_mul (pv 2) (pv 2)) (pe_op op_mul (pv 1) pe_int)) (pe_op op_fdiv (pv 0) pe_int)) pe_int))
      (pss_one (ps_ret (pe_op op_mod (pe_op op_mul (pv 3) (pv 3)) pe_int))))), ?_⟩
    have b0 := Int.emod_nonneg c (b := 1000003) (by decide)
    have b1 := Int.emod_lt_of_pos c (b := 1000003) (by decide)
    have m1 := mixOne_b c k
    have m2 := mixTwo_b c k
    refine ⟨_, rfl, _, _, rfl, rfl, (by show (0 : Int) < 1000003; decide), _, _, rfl, rfl, _, rfl, _, _, rfl, rfl, .inl ⟨by omega, by omega⟩, _, _, rfl, rfl, _, _, rfl, rfl, .inl ⟨by omega, by omega⟩, _, _, rfl, rfl, (by show (0 : Int) < 1000003; decide), ?_⟩
    refine ⟨.int (mixOne c k), rfl, .int (mixOne c k), rfl, mixOne c k, mixOne c k, rfl, rfl, .inl ⟨by omega, by omega⟩, _, rfl, _, _, rfl, rfl, .inl ⟨by omega, by omega⟩, _, _, rfl, rfl, _, rfl, _, _, rfl, rfl, ⟨by decide, by decide⟩, _, _, rfl, rfl, _, _, rfl, rfl, (by show (0 : Int) < 1000003; decide), ?_⟩
    refine ⟨.int (mixTwo c k), rfl, .int (mixTwo c k), rfl, mixTwo c k, mixTwo c k, rfl, rfl, .inl ⟨by omega, by omega⟩, _, _, rfl, rfl, (by show (0 : Int) < 1000003; decide), q⟩

/-! ### _law_ring -/
def ring (ns : List Int) (n m : Int) : List Int :=
  if cell ns 2 % 5 = 0 then (List.range n.toNat).map fun k => cell ns (4 + k) % m
  else if cell ns 2 % 5 = 1 then (List.range n.toNat).map fun k : Nat => mixed (cell ns 2) (k : Int) % (if 2 + cell ns 2 / 5 % 3 < m then 2 + cell ns 2 / 5 % 3 else m)
  else if cell ns 2 % 5 = 2 then List.replicate (cell ns 2 / 5 % (n + 1)).toNat (cell ns 2 / 50 % m) ++ List.replicate (n - cell ns 2 / 5 % (n + 1)).toNat (cell ns 2 / 5000 % m)
  else if cell ns 2 % 5 = 3 then (List.range n.toNat).map fun k : Nat => (cell ns 2 / 5 + (k : Int) * (1 + cell ns 2 / 500 % 3)) % m
  else (List.range n.toNat).map fun k : Nat => mixed (cell ns 2) (k : Int) % m
theorem ring_good (ns : List Int) {n m : Int} (n2 : 2 ≤ n) (n12 : n ≤ 12) (m2 : 2 ≤ m) (m100 : m ≤ 100) : Good n.toNat m (ring ns n m) := by
  have em : ∀ x : Int, 0 ≤ x % m ∧ x % m < m := fun x => ⟨Int.emod_nonneg _ (by omega), Int.emod_lt_of_pos _ (by omega)⟩
  refine ⟨?_, by omega, by omega, m2, m100, ?_⟩
  · have a0 := Int.emod_nonneg (cell ns 2 / 5) (b := n + 1) (by omega)
    have a1 := Int.emod_lt_of_pos (cell ns 2 / 5) (b := n + 1) (by omega)
    unfold ring
    split
    · rw [List.length_map, List.length_range]
    split
    · rw [List.length_map, List.length_range]
    split
    · rw [List.length_append, List.length_replicate, List.length_replicate]
      omega
    split
    · rw [List.length_map, List.length_range]
    · rw [List.length_map, List.length_range]
  · intro x hx
    unfold ring at hx
    split at hx
    · obtain ⟨k, _, rfl⟩ := List.mem_map.mp hx
      exact em _
    split at hx
    · obtain ⟨k, _, rfl⟩ := List.mem_map.mp hx
      have d0 := Int.emod_nonneg (cell ns 2 / 5) (b := 3) (by decide)
      split
      · have := Int.emod_nonneg (mixed (cell ns 2) k) (b := 2 + cell ns 2 / 5 % 3) (by omega)
        have := Int.emod_lt_of_pos (mixed (cell ns 2) k) (b := 2 + cell ns 2 / 5 % 3) (by omega)
        omega
      · exact em _
    split at hx
    · rcases List.mem_append.mp hx with h | h
      · rw [(List.mem_replicate.mp h).2]
        exact em _
      · rw [(List.mem_replicate.mp h).2]
        exact em _
    split at hx
    · obtain ⟨k, _, rfl⟩ := List.mem_map.mp hx
      exact em _
    · obtain ⟨k, _, rfl⟩ := List.mem_map.mp hx
      exact em _
theorem flat_one (x : V) : ∀ k : Nat, (List.replicate k [x]).flatten = List.replicate k x
  | 0 => rfl
  | k + 1 => by
    rw [List.replicate_succ, List.flatten_cons, flat_one x k, List.replicate_succ]
    rfl
def sp__law_ring (K : PySem.W.Frag) : Sp := fun vs H Q _ => ∃ (a : Addr) (ns : List Int) (n m : Int), vs = [.ref a, .int n, .int m] ∧ SqL K H a (ns.map V.int) ∧ ns.length ≤ 63 ∧ 2 ≤ n ∧ n ≤ 12 ∧ 2 ≤ m ∧ m ≤ 100 ∧
  ∀ p H', Same H H' → SqT K H' p ((ring ns n m).map V.int) → Q (.ref p) H'
theorem ok__law_ring (T : Top K mg) : FnOk P w K mg base CX0 2 T.f__law_ring T.d__law_ring ["_law_script", "_law_size_here", "_law_many_here"] (sp__law_ring K) := by
  refine T.F__law_ring.ok sc__law_ring (fun vs H Q E h => ?_) (fun cdv A outer s H vs Q E hr h => ?_)
  · obtain ⟨a, ns, n, m, rfl, hS, hl, n2, n12, m2, m100, q⟩ := h
    rfl
  · obtain ⟨a, ns, n, m, rfl, hS, hl, n2, n12, m2, m100, q⟩ := h
    refine ⟨_, (pss_cons (ps_set (i := 3) sc__law_ring.nd rfl (by first | exact Or.inl rfl | exact Or.inr rfl) (pe_call (ok__law_cell_at T) (hr.mono (by decide)) (by rfl) T.g__law_cell_at T.F__law_cell_at.kp T.b__law_cell_at .nil pass0 (pa_cons (pv 0) (pa_cons pe_int pa_nil))))
      (pss_cons (ps_set (i := 4) sc__law_ring.nd rfl (by first | exact Or.inl rfl | exact Or.inr rfl) (pe_op op_mod (pv 3) pe_int))
      (pss_cons (ps_if (pt_cmpR op_eq (pv 4) pe_int (nomark _))
      (pss_one (ps_ret (pe_callTy (r := HL.rTupOf K) HL.call_tupK (by rfl) T.n_tuple (by decide +kernel) (pa_cons (pe_lc (own := [("_law_k", 5)]) (g := gName 5) (tt := tYes) (by rfl) sc__law_ring.nd (pi_range1 (by rfl) T.n_range (pa_cons (pv 1) pa_nil)) (blkOk_by (N := ["_law_script", "_law_size_here", "_law_many_here", "_law_cell", "_law_way", "_law_k", "_law_at", "_law_low"]) (sc := defScope s__law_ring) (by decide +kernel)) (fun _ _ _ _ _ => pg_name (i := 5) sc__law_ring.nd rfl (Or.inl rfl)) (fun _ _ _ _ _ => pts_nil) (fun _ _ _ _ _ => (pe_op op_mod (pe_call (ok__law_cell_at T) (hr.mono (by decide)) (by rfl) T.g__law_cell_at T.F__law_cell_at.kp T.b__law_cell_at .nil pass0 (pa_cons (pv 0) (pa_cons (pe_op op_add pe_int (pv 5)) pa_nil))) (pv 2)))) pa_nil))))
      pss_nil)
      (pss_cons (ps_if (pt_cmpR op_eq (pv 4) pe_int (nomark _))
      (pss_one (ps_ret (pe_callTy (r := HL.rTupOf K) HL.call_tupK (by rfl) T.n_tuple (by decide +kernel) (pa_cons (pe_lc (own := [("_law_k", 5)]) (g := gName 5) (tt := tYes) (by rfl) sc__law_ring.nd (pi_range1 (by rfl) T.n_range (pa_cons (pv 1) pa_nil)) (blkOk_by (N := ["_law_script", "_law_size_here", "_law_many_here", "_law_cell", "_law_way", "_law_k", "_law_at", "_law_low"]) (sc := defScope s__law_ring) (by decide +kernel)) (fun _ _ _ _ _ => pg_name (i := 5) sc__law_ring.nd rfl (Or.inl rfl)) (fun _ _ _ _ _ => pts_nil) (fun _ _ _ _ _ => (pe_op op_mod (pe_call (ok__law_mixed T) (hr.mono (by decide)) (by rfl) T.g__law_mixed T.F__law_mixed.kp T.b__law_mixed .nil pass0 (pa_cons (pv 3) (pa_cons (pv 5) pa_nil))) (pe_callB (call_min2 rfl) (by rfl) T.n_min (by decide +kernel) (pa_cons (pv 2) (pa_cons (pe_op op_add pe_int (pe_op op_mod (pe_op op_fdiv (pv 3) pe_int) pe_int)) pa_nil)))))) pa_nil))))
      pss_nil)
      (pss_cons (ps_if (pt_cmpR op_eq (pv 4) pe_int (nomark _))
      (pss_cons (ps_set (i := 6) sc__law_ring.nd rfl (by first | exact Or.inl rfl | exact Or.inr rfl) (pe_op op_mod (pe_op op_fdiv (pv 3) pe_int) (pe_op op_add (pv 1) pe_int)))
      (pss_cons (ps_set (i := 7) sc__law_ring.nd rfl (by first | exact Or.inl rfl | exact Or.inr rfl) (pe_op op_mod (pe_op op_fdiv (pv 3) pe_int) (pv 2)))
      (pss_one (ps_ret (pe_op (r := HL.rCatB K) HL.op_catB (pe_op (r := HL.rRepA K) HL.op_repA (pe_tup (pa_cons (pv 7) pa_nil)) (pv 6)) (pe_op (r := HL.rRepA K) HL.op_repA (pe_tup (pa_cons (pe_op op_mod (pe_op op_fdiv (pv 3) pe_int) (pv 2)) pa_nil)) (pe_op op_sub (pv 1) (pv 6))))))))
      pss_nil)
      (pss_cons (ps_if (pt_cmpR op_eq (pv 4) pe_int (nomark _))
      (pss_one (ps_ret (pe_callTy (r := HL.rTupOf K) HL.call_tupK (by rfl) T.n_tuple (by decide +kernel) (pa_cons (pe_lc (own := [("_law_k", 5)]) (g := gName 5) (tt := tYes) (by rfl) sc__law_ring.nd (pi_range1 (by rfl) T.n_range (pa_cons (pv 1) pa_nil)) (blkOk_by (N := ["_law_script", "_law_size_here", "_law_many_here", "_law_cell", "_law_way", "_law_k", "_law_at", "_law_low"]) (sc := defScope s__law_ring) (by decide +kernel)) (fun _ _ _ _ _ => pg_name (i := 5) sc__law_ring.nd rfl (Or.inl rfl)) (fun _ _ _ _ _ => pts_nil) (fun _ _ _ _ _ => (pe_op op_mod (pe_op op_add (pe_op op_fdiv (pv 3) pe_int) (pe_op op_mul (pv 5) (pe_op op_add pe_int (pe_op op_mod (pe_op op_fdiv (pv 3) pe_int) pe_int)))) (pv 2)))) pa_nil))))
      pss_nil)
      (pss_one (ps_ret (pe_callTy (r := HL.rTupOf K) HL.call_tupK (by rfl) T.n_tuple (by decide +kernel) (pa_cons (pe_lc (own := [("_law_k", 5)]) (g := gName 5) (tt := tYes) (by rfl) sc__law_ring.nd (pi_range1 (by rfl) T.n_range (pa_cons (pv 1) pa_nil)) (blkOk_by (N := ["_law_script", "_law_size_here", "_law_many_here", "_law_cell", "_law_way", "_law_k", "_law_at", "_law_low"]) (sc := defScope s__law_ring) (by decide +kernel)) (fun _ _ _ _ _ => pg_name (i := 5) sc__law_ring.nd rfl (Or.inl rfl)) (fun _ _ _ _ _ => pts_nil) (fun _ _ _ _ _ => (pe_op op_mod (pe_call (ok__law_mixed T) (hr.mono (by decide)) (by rfl) T.g__law_mixed T.F__law_mixed.kp T.b__law_mixed .nil pass0 (pa_cons (pv 3) (pa_cons (pv 5) pa_nil))) (pv 2)))) pa_nil)))))))))), ?_⟩
    refine ⟨_, rfl, a, ns, 2, rfl, hS, hl, by decide, ?_⟩
    refine ⟨_, rfl, _, _, rfl, rfl, (by show (0 : Int) < 5; decide), ?_⟩
    refine ⟨_, rfl, rfl, _, rfl, ite2 (fun c0 => ?_) (fun c0 => ?_)⟩
    · have e0 : cell ns 2 % 5 = 0 := V.int.inj (of_decide_eq_true c0)
      unfold ring at q
      rw [if_pos e0] at q
      refine ⟨_, rfl, _, rfl, by omega, by omega, fun D hD => lc_range (lo := 0) (n := n.toNat) (fun i H' => ListAt H D (((List.range i).map fun k => cell ns (4 + k) % m).map V.int) H') (ListAt.mk0 (Same.refl H) hD) (fun i H' hi L => ?_) fun H' L => ?_⟩
      · refine ⟨rfl, tyes ?_⟩
        refine ⟨_, rfl, _, rfl, _, _, rfl, rfl, a, ns, 4 + (0 + (i : Int)), rfl, L.1.seq hS, hl, by omega, _, rfl, _, _, rfl, rfl, (by show 0 < m; omega), L.push (Same.refl H') ?_ ?_⟩
        · rw [List.length_map, List.length_map, List.length_range]
          omega
        · rw [range_map_succ, List.map_append, show (4 + (0 + (i : Int))).toNat = 4 + i by omega]
          rfl
      · exact ⟨D, _, rfl, .inl ⟨SqL.of L.2.2, fun t ht => q t _ (same_upd2 L.1 ht) (SqT.of upd_same)⟩⟩
    have e0 : ¬ cell ns 2 % 5 = 0 := fun z => c0 (decide_eq_true (congrArg V.int z))
    refine ⟨_, rfl, rfl, _, rfl, ite2 (fun c1 => ?_) (fun c1 => ?_)⟩
    · have e1 : cell ns 2 % 5 = 1 := V.int.inj (of_decide_eq_true c1)
      unfold ring at q
      rw [if_neg e0, if_pos e1] at q
      have d0 := Int.emod_nonneg (cell ns 2 / 5) (b := 3) (by decide)
      refine ⟨_, rfl, _, rfl, by omega, by omega, fun D hD => lc_range (lo := 0) (n := n.toNat) (fun i H' => ListAt H D (((List.range i).map fun k : Nat => mixed (cell ns 2) (k : Int) % (if 2 + cell ns 2 / 5 % 3 < m then 2 + cell ns 2 / 5 % 3 else m)).map V.int) H') (ListAt.mk0 (Same.refl H) hD) (fun i H' hi L => ?_) fun H' L => ?_⟩
      · refine ⟨rfl, tyes ?_⟩
        refine ⟨_, rfl, _, rfl, cell ns 2, 0 + (i : Int), rfl, by omega, by omega, _, rfl, _, rfl, _, _, rfl, rfl, ⟨by decide, by decide⟩, _, _, rfl, rfl, (by show (0 : Int) < 3; decide), _, _, rfl, rfl, _, _, rfl, _, _, rfl, rfl, ?_, L.push (Same.refl H') ?_ ?_⟩
        · show 0 < (if 2 + cell ns 2 / 5 % 3 < m then 2 + cell ns 2 / 5 % 3 else m)
          split <;> omega
        · rw [List.length_map, List.length_map, List.length_range]
          omega
        · rw [range_map_succ, List.map_append, show 0 + (i : Int) = i by omega]
          rfl
      · exact ⟨D, _, rfl, .inl ⟨SqL.of L.2.2, fun t ht => q t _ (same_upd2 L.1 ht) (SqT.of upd_same)⟩⟩
    have e1 : ¬ cell ns 2 % 5 = 1 := fun z => c1 (decide_eq_true (congrArg V.int z))
    refine ⟨_, rfl, rfl, _, rfl, ite2 (fun c2 => ?_) (fun c2 => ?_)⟩
    · have e2 : cell ns 2 % 5 = 2 := V.int.inj (of_decide_eq_true c2)
      unfold ring at q
      rw [if_neg e0, if_neg e1, if_pos e2] at q
      have a0 := Int.emod_nonneg (cell ns 2 / 5) (b := n + 1) (by omega)
      have a1 := Int.emod_lt_of_pos (cell ns 2 / 5) (b := n + 1) (by omega)
      refine ⟨_, rfl, _, _, rfl, rfl, ⟨by decide, by decide⟩, _, rfl, _, _, rfl, rfl, _, _, rfl, rfl, (by show 0 < n + 1; omega), ?_⟩
      refine ⟨_, rfl, _, _, rfl, rfl, ⟨by decide, by decide⟩, _, rfl, _, _, rfl, rfl, (by show 0 < m; omega), ?_⟩
      refine ⟨_, rfl, (by show 1 ≤ sizeLine; rw [sizeLine_eq]; decide), fun t1 h1 => ?_⟩
      refine ⟨_, rfl, t1, cell ns 2 / 5 % (n + 1), _, rfl, rfl, SqT.of upd_same, List.cons_ne_nil _ _, by omega, by omega, (by show 1 ≤ 1000; decide), fun p1 H1 s1 q1 => ?_⟩
      have k1 : Same H H1 := (same_new h1).trans s1
      refine ⟨_, rfl, _, _, rfl, rfl, ⟨by decide, by decide⟩, _, rfl, _, _, rfl, rfl, (by show 0 < m; omega), (by show 1 ≤ sizeLine; rw [sizeLine_eq]; decide), fun t2 h2 => ?_⟩
      refine ⟨_, rfl, _, rfl, _, _, rfl, rfl, t2, n - cell ns 2 / 5 % (n + 1), _, rfl, rfl, SqT.of upd_same, List.cons_ne_nil _ _, by omega, by omega, (by show 1 ≤ 1000; decide), fun p2 H2 s2 q2 => ?_⟩
      have k2 : Same H1 H2 := (same_new h2).trans s2
      have q1' := seqT_same k2 q1
      rw [flat_one] at q1'
      rw [flat_one] at q2
      refine ⟨p1, p2, _, _, rfl, rfl, q1', q2, ?_, fun p3 H3 s3 q3 => q p3 H3 ((k1.trans k2).trans s3) ?_⟩
      · rw [List.length_replicate, List.length_replicate, sizeLine_eq]
        omega
      · rw [List.map_append, List.map_replicate, List.map_replicate]
        exact q3
    have e2 : ¬ cell ns 2 % 5 = 2 := fun z => c2 (decide_eq_true (congrArg V.int z))
    refine ⟨_, rfl, rfl, _, rfl, ite2 (fun c3 => ?_) (fun c3 => ?_)⟩
    · have e3 : cell ns 2 % 5 = 3 := V.int.inj (of_decide_eq_true c3)
      unfold ring at q
      rw [if_neg e0, if_neg e1, if_neg e2, if_pos e3] at q
      refine ⟨_, rfl, _, rfl, by omega, by omega, fun D hD => lc_range (lo := 0) (n := n.toNat) (fun i H' => ListAt H D (((List.range i).map fun k : Nat => (cell ns 2 / 5 + (k : Int) * (1 + cell ns 2 / 500 % 3)) % m).map V.int) H') (ListAt.mk0 (Same.refl H) hD) (fun i H' hi L => ?_) fun H' L => ?_⟩
      · refine ⟨rfl, tyes ?_⟩
        refine ⟨_, rfl, _, _, rfl, rfl, ⟨by decide, by decide⟩, _, rfl, _, rfl, _, _, rfl, rfl, ⟨by decide, by decide⟩, _, _, rfl, rfl, (by show (0 : Int) < 3; decide), _, _, rfl, rfl, 0 + (i : Int), _, rfl, rfl, .inl ⟨by omega, by omega⟩, _, _, rfl, rfl, _, rfl, _, _, rfl, rfl, (by show 0 < m; omega), L.push (Same.refl H') ?_ ?_⟩
        · rw [List.length_map, List.length_map, List.length_range]
          omega
        · rw [range_map_succ, List.map_append, show 0 + (i : Int) = i by omega]
          rfl
      · exact ⟨D, _, rfl, .inl ⟨SqL.of L.2.2, fun t ht => q t _ (same_upd2 L.1 ht) (SqT.of upd_same)⟩⟩
    have e3 : ¬ cell ns 2 % 5 = 3 := fun z => c3 (decide_eq_true (congrArg V.int z))
    unfold ring at q
    rw [if_neg e0, if_neg e1, if_neg e2, if_neg e3] at q
    refine ⟨_, rfl, _, rfl, by omega, by omega, fun D hD => lc_range (lo := 0) (n := n.toNat) (fun i H' => ListAt H D (((List.range i).map fun k : Nat => mixed (cell ns 2) (k : Int) % m).map V.int) H') (ListAt.mk0 (Same.refl H) hD) (fun i H' hi L => ?_) fun H' L => ?_⟩
    · refine ⟨rfl, tyes ?_⟩
      refine ⟨_, rfl, _, rfl, cell ns 2, 0 + (i : Int), rfl, by omega, by omega, _, rfl, _, _, rfl, rfl, (by show 0 < m; omega), L.push (Same.refl H') ?_ ?_⟩
      · rw [List.length_map, List.length_map, List.length_range]
        omega
      · rw [range_map_succ, List.map_append, show 0 + (i : Int) = i by omega]
        rfl
    · exact ⟨D, _, rfl, .inl ⟨SqL.of L.2.2, fun t ht => q t _ (same_upd2 L.1 ht) (SqT.of upd_same)⟩⟩

/-! ### _law_due -/
/-- what is due: 0, 1, or 7 where it is a good one -/
noncomputable def due (r : List Int) (m : Int) : Int := match refuse r m with
  | some j => (j : Int)
  | none => 7
def sp__law_due (K : PySem.W.Frag) : Sp := fun vs H Q _ => ∃ (a : Addr) (r : List Int) (m : Int), vs = [.ref a, .int m] ∧ SqT K H a (r.map V.int) ∧ r.length ≤ 1000 ∧ Q (.int (due r m)) H
theorem ok__law_due (T : Top K mg) : FnOk P w K mg base CX0 1 T.f__law_due T.d__law_due ["_law_ring_here", "_law_many_here"] (sp__law_due K) := by
  refine T.F__law_due.ok sc__law_due (fun vs H Q E h => ?_) (fun cdv A outer s H vs Q E hr h => ?_)
  · obtain ⟨a, r, m, rfl, hS, hl, q⟩ := h
    rfl
  · obtain ⟨a, r, m, rfl, hS, hl, q⟩ := h
    refine ⟨_, (pss_cons (ps_if (PW.pt (pw_or (pt_cmpR op_lt (pv 1) pe_int (nomark _)) (pw_or1 (pt_cmpR op_gt (pv 1) pe_int (nomark _)))))
      (pss_one (ps_ret pe_int))
      pss_nil)
      (pss_cons (ps_if (PW.pt (pw_or (pt_cmpR op_lt (pe_callB (r := HL.rLen K) HL.call_lenK (by rfl) T.n_len (by decide +kernel) (pa_cons (pv 0) pa_nil)) pe_int (nomark _)) (pw_or (pt_cmpR op_gt (pe_callB (r := HL.rLen K) HL.call_lenK (by rfl) T.n_len (by decide +kernel) (pa_cons (pv 0) pa_nil)) pe_int (nomark _)) (pw_or (pt_cmpR op_lt (pe_callB (r := HL.rMinT K) (HL.cr_minT rfl) (by rfl) T.n_min (by decide +kernel) (pa_cons (pv 0) pa_nil)) pe_int (nomark _)) (pw_or1 (pt_cmpR op_ge (pe_callB (r := HL.rMaxT K) (HL.cr_maxT rfl) (by rfl) T.n_max (by decide +kernel) (pa_cons (pv 0) pa_nil)) (pv 1) (nomark _)))))))
      (pss_one (ps_ret pe_int))
      pss_nil)
      (pss_one (ps_ret pe_int)))), ?_⟩
    have lm : ((r.map V.int).length : Int) = (r.length : Int) := by rw [List.length_map]
    have z0 : (m < 2 ∨ 100 < m) → due r m = 0 := fun h => by
      unfold due refuse
      rw [if_pos h]
      rfl
    have z1 : ¬ (m < 2 ∨ 100 < m) → badRing r m → due r m = 1 := fun h b => by
      unfold due refuse
      rw [if_neg h, if_pos b]
      rfl
    have z7 : ¬ (m < 2 ∨ 100 < m) → ¬ badRing r m → due r m = 7 := fun h b => by
      unfold due refuse
      rw [if_neg h, if_neg b]
    refine ⟨_, rfl, _, _, rfl, rfl, _, rfl, ite2 (fun c => ?_) (fun c => ?_)⟩
    · rw [z0 (Or.inl (of_decide_eq_true c))] at q
      exact iteT q
    refine ⟨_, rfl, _, _, rfl, rfl, _, rfl, ite2 (fun c1 => ?_) (fun c1 => ?_)⟩
    · rw [z0 (Or.inr (of_decide_eq_true c1))] at q
      exact q
    have h0 : ¬ (m < 2 ∨ 100 < m) := fun h => h.elim (fun y => c (decide_eq_true y)) fun y => c1 (decide_eq_true y)
    refine ⟨_, rfl, a, _, rfl, .inr hS, _, _, rfl, rfl, _, rfl, ite2 (fun c2 => ?_) (fun c2 => ?_)⟩
    · have c2' := of_decide_eq_true c2
      rw [lm] at c2'
      rw [z1 h0 (Or.inl (by omega))] at q
      exact iteT q
    have h2 : ¬ (r.length : Int) < 2 := fun y => c2 (decide_eq_true (by rw [lm]; exact y))
    refine ⟨_, rfl, a, _, rfl, .inr hS, _, _, rfl, rfl, _, rfl, ite2 (fun c3 => ?_) (fun c3 => ?_)⟩
    · have c3' := of_decide_eq_true c3
      rw [lm] at c3'
      rw [z1 h0 (Or.inr (Or.inl (by omega)))] at q
      exact iteT q
    have h3 : ¬ 12 < (r.length : Int) := fun y => c3 (decide_eq_true (by rw [lm]; exact y))
    refine ⟨_, rfl, a, r, rfl, hS, by omega, fun lo lo1 lo2 => ⟨_, _, rfl, rfl, _, rfl, ite2 (fun c4 => ?_) (fun c4 => ?_)⟩⟩
    · rw [z1 h0 (Or.inr (Or.inr ⟨lo, lo1, Or.inl (of_decide_eq_true c4)⟩))] at q
      exact iteT q
    refine ⟨_, rfl, a, r, rfl, hS, by omega, fun hi hi1 hi2 => ⟨_, rfl, _, _, rfl, rfl, _, rfl, ite2 (fun c5 => ?_) (fun c5 => ?_)⟩⟩
    · rw [z1 h0 (Or.inr (Or.inr ⟨hi, hi1, Or.inr (of_decide_eq_true c5)⟩))] at q
      exact q
    have h4 : ¬ lo < 0 := fun y => c4 (decide_eq_true y)
    have h5 : ¬ m ≤ hi := fun y => c5 (decide_eq_true y)
    have nb : ¬ badRing r m := by
      rintro (h | h | ⟨x, hx, h⟩)
      · omega
      · omega
      · have := lo2 x hx
        have := hi2 x hx
        omega
    rw [z7 h0 nb] at q
    exact q

/-! ### _law_wrong -/
def sp__law_wrong (K : PySem.W.Frag) : Sp := fun vs H Q _ => ∃ (a : Addr) (r : List Int) (m c : Int) (n : Nat), vs = [.ref a, .int m, .int c] ∧ SqT K H a (r.map V.int) ∧ Good n m r ∧
  ∀ (p p2 : Addr) (r' : List Int) (m' : Int) (H' : Hp), Same H H' → SqT K H' p [.ref p2, .int m'] → SqT K H' p2 (r'.map V.int) → r'.length ≤ 1000 → Q (.ref p) H'
theorem set_three {r : List Int} (k : Nat) (x : Int) : ((r.map V.int).take k ++ [V.int x]) ++ (r.map V.int).drop (k + 1) = ((r.take k ++ [x]) ++ r.drop (k + 1)).map V.int := by
  rw [List.map_append, List.map_append, List.map_take, List.map_drop]
  rfl
theorem ok__law_wrong (T : Top K mg) : FnOk P w K mg base CX0 2 T.f__law_wrong T.d__law_wrong ["_law_ring_here", "_law_many_here", "_law_cell"] (sp__law_wrong K) := by
  refine T.F__law_wrong.ok sc__law_wrong (fun vs H Q E h => ?_) (fun cdv A outer s H vs Q E hr h => ?_)
  · obtain ⟨a, r, m, c, n, rfl, hS, g, q⟩ := h
    rfl
  · obtain ⟨a, r, m, c, n, rfl, hS, g, q⟩ := h
    refine ⟨_, (pss_cons (ps_set (i := 3) sc__law_wrong.nd rfl (by first | exact Or.inl rfl | exact Or.inr rfl) (pe_op op_mod (pe_call (ok__law_mixed T) (hr.mono (by decide)) (by rfl) T.g__law_mixed T.F__law_mixed.kp T.b__law_mixed .nil pass0 (pa_cons (pv 2) (pa_cons pe_int pa_nil))) pe_int))
      (pss_cons (ps_set (i := 4) sc__law_wrong.nd rfl (by first | exact Or.inl rfl | exact Or.inr rfl) (pe_op op_mod (pe_op op_fdiv (pv 2) pe_int) (pe_op op_pow pe_int pe_int)))
      (pss_cons (ps_set (i := 5) sc__law_wrong.nd rfl (by first | exact Or.inl rfl | exact Or.inr rfl) (pe_op op_mod (pe_call (ok__law_mixed T) (hr.mono (by decide)) (by rfl) T.g__law_mixed T.F__law_mixed.kp T.b__law_mixed .nil pass0 (pa_cons (pv 2) (pa_cons pe_int pa_nil))) (pe_callB (r := HL.rLen K) HL.call_lenK (by rfl) T.n_len (by decide +kernel) (pa_cons (pv 0) pa_nil))))
      (pss_cons (ps_if (pt_cmpR op_lt (pv 3) pe_int (nomark _))
      (pss_one (ps_ret (pe_tup (pa_cons (pv 0) (pa_cons (pe_ix (r := rIxL K) ix_list (pe_lst (pa_cons pe_int (pa_cons (pe_op op_add pe_int (pv 4)) (pa_cons (pe_op op_sub pe_int (pv 4)) pa_nil)))) (pv 3) (fun _ _ => rfl)) pa_nil)))))
      pss_nil)
      (pss_cons (ps_if (pt_cmpR op_eq (pv 3) pe_int (nomark _))
      (pss_one (ps_ret (pe_tup (pa_cons (pe_slice (r := HL.rSlB K) HL.sl_tupB (pv 0) po_none (po_some pe_int)) (pa_cons (pv 1) pa_nil)))))
      pss_nil)
      (pss_cons (ps_if (pt_cmpR op_eq (pv 3) pe_int (nomark _))
      (pss_one (ps_ret (pe_tup (pa_cons (pe_tup pa_nil) (pa_cons (pv 1) pa_nil)))))
      pss_nil)
      (pss_cons (ps_if (pt_cmpR op_eq (pv 3) pe_int (nomark _))
      (pss_one (ps_ret (pe_tup (pa_cons (pe_slice (r := HL.rSlB K) HL.sl_tupB (pe_op (r := HL.rRepA K) HL.op_repA (pv 0) pe_int) po_none (po_some pe_int)) (pa_cons (pv 1) pa_nil)))))
      pss_nil)
      (pss_cons (ps_if (pt_cmpR op_eq (pv 3) pe_int (nomark _))
      (pss_one (ps_ret (pe_tup (pa_cons (pe_op (r := HL.rCatB K) HL.op_catB (pe_op (r := HL.rCatB K) HL.op_catB (pe_slice (r := HL.rSlB K) HL.sl_tupB (pv 0) po_none (po_some (pv 5))) (pe_tup (pa_cons (pe_op op_sub (pe_un un_neg pe_int) (pv 4)) pa_nil))) (pe_slice (r := HL.rSlB K) HL.sl_tupB (pv 0) (po_some (pe_op op_add (pv 5) pe_int)) po_none)) (pa_cons (pv 1) pa_nil)))))
      pss_nil)
      (pss_cons (ps_if (pt_cmpR op_eq (pv 3) pe_int (nomark _))
      (pss_one (ps_ret (pe_tup (pa_cons (pe_op (r := HL.rCatB K) HL.op_catB (pe_op (r := HL.rCatB K) HL.op_catB (pe_slice (r := HL.rSlB K) HL.sl_tupB (pv 0) po_none (po_some (pv 5))) (pe_tup (pa_cons (pe_op op_add (pv 1) (pe_op op_mul (pv 4) (pe_op op_mod (pe_call (ok__law_mixed T) (hr.mono (by decide)) (by rfl) T.g__law_mixed T.F__law_mixed.kp T.b__law_mixed .nil pass0 (pa_cons (pv 2) (pa_cons pe_int pa_nil))) pe_int))) pa_nil))) (pe_slice (r := HL.rSlB K) HL.sl_tupB (pv 0) (po_some (pe_op op_add (pv 5) pe_int)) po_none)) (pa_cons (pv 1) pa_nil)))))
      pss_nil)
      (pss_one (ps_ret (pe_tup (pa_cons (pe_op (r := HL.rCatB K) HL.op_catB (pe_op (r := HL.rCatB K) HL.op_catB (pe_slice (r := HL.rSlB K) HL.sl_tupB (pv 0) po_none (po_some (pv 5))) (pe_tup (pa_cons (pv 1) pa_nil))) (pe_slice (r := HL.rSlB K) HL.sl_tupB (pv 0) (po_some (pe_op op_add (pv 5) pe_int)) po_none)) (pa_cons pe_int pa_nil)))))))))))))), ?_⟩
    have gl := g.len
    have g2 := g.n2
    have g12 := g.n12
    have lm : ((r.map V.int).length : Int) = (r.length : Int) := by rw [List.length_map]
    refine ⟨_, rfl, c, 1, rfl, by decide, by decide, _, _, rfl, rfl, (by show (0 : Int) < 9; decide), ?_⟩
    refine ⟨_, rfl, _, _, rfl, rfl, ⟨by decide, by decide⟩, 10, 20, rfl, rfl, ⟨by decide, by decide, by decide⟩, _, _, rfl, rfl, (by show (0 : Int) < 10 ^ 20; decide), ?_⟩
    refine ⟨_, rfl, c, 2, rfl, by decide, by decide, _, rfl, a, _, rfl, .inr hS, _, _, rfl, rfl, (by rw [lm]; show (0 : Int) < (r.length : Int); omega), ?_⟩
    rw [lm]
    have w0 := Int.emod_nonneg (mixed c 1) (b := 9) (by decide)
    have w1 := Int.emod_lt_of_pos (mixed c 1) (b := 9) (by decide)
    have k0 := Int.emod_nonneg (mixed c 2) (b := (r.length : Int)) (by omega)
    have k1 := Int.emod_lt_of_pos (mixed c 2) (b := (r.length : Int)) (by omega)
    obtain ⟨k, hk⟩ : ∃ k : Nat, mixed c 2 % (r.length : Int) = (k : Int) := ⟨_, (Int.toNat_of_nonneg k0).symm⟩
    -- one number changed
    have three : ∀ (x : Int), ((r.take k ++ [x]) ++ r.drop (k + 1)).length ≤ 1000 := fun x => by
      rw [List.length_append, List.length_append, List.length_take, List.length_drop]
      show min k r.length + 1 + _ ≤ _
      omega
    have sz1 : ∀ (x : Int), ((r.map V.int).take k).length + [V.int x].length ≤ sizeLine := fun x => by
      rw [List.length_take, List.length_map, sizeLine_eq]
      show min k r.length + 1 ≤ _
      omega
    have sz2 : ∀ (x : Int), ((r.map V.int).take k ++ [V.int x]).length + ((r.map V.int).drop (k + 1)).length ≤ sizeLine := fun x => by
      rw [List.length_append, List.length_take, List.length_drop, List.length_map, sizeLine_eq]
      show min k r.length + 1 + _ ≤ _
      omega
    have ek : ((k : Int) + 1) = ((k + 1 : Nat) : Int) := rfl
    refine ⟨_, rfl, _, _, rfl, rfl, _, rfl, ite2 (fun c1 => ?_) (fun c1 => ?_)⟩
    · have c1' := of_decide_eq_true c1
      refine ⟨_, rfl, _, rfl, _, _, rfl, rfl, _, rfl, _, _, rfl, rfl, small63 (by show 3 ≤ 1000; decide), fun u hu => ?_⟩
      refine ⟨_, rfl, u, ([1, 101 + c / 9 % 10 ^ 20, 0 - c / 9 % 10 ^ 20] : List Int).map V.int, mixed c 1 % 9, _, rfl, rfl, SqL.of upd_same, at_int (k := (mixed c 1 % 9).toNat) (by omega) (by show (mixed c 1 % 9).toNat < 3; omega), small63 (by show 2 ≤ 1000; decide), fun t ht => ?_⟩
      exact q t a r _ _ (same_upd2 (same_new hu) ht) (SqT.of upd_same) (seqT_upd (seqT_upd hS hu) ht) (by omega)
    refine ⟨_, rfl, rfl, _, rfl, ite2 (fun c2 => ?_) (fun c2 => ?_)⟩
    · refine ⟨_, rfl, 1, rfl, a, _, rfl, hS, fun p1 H1 s1 q1 => ⟨_, rfl, small63 (by show 2 ≤ 1000; decide), fun t ht => ?_⟩⟩
      have e1 : cutV (r.map V.int) none (some 1) = (r.take 1).map V.int := by
        have := cut_to (r.map V.int) 1
        rw [show ((1 : Nat) : Int) = 1 from rfl] at this
        rw [this, List.map_take]
      rw [e1] at q1
      exact q t p1 (r.take 1) _ _ (same_upd2 s1 ht) (SqT.of upd_same) (seqT_upd q1 ht) (by rw [List.length_take]; omega)
    refine ⟨_, rfl, rfl, _, rfl, ite2 (fun c3 => ?_) (fun c3 => ?_)⟩
    · refine ⟨Nat.zero_le _, fun u hu => ⟨_, rfl, small63 (by show 2 ≤ 1000; decide), fun t ht => ?_⟩⟩
      exact q t u [] _ _ (same_upd2 (same_new hu) ht) (SqT.of upd_same) (seqT_upd (SqT.of upd_same) ht) (Nat.zero_le _)
    refine ⟨_, rfl, rfl, _, rfl, ite2 (fun c4 => ?_) (fun c4 => ?_)⟩
    · have ne : r.map V.int ≠ [] := fun e => by
        have := congrArg List.length e
        rw [List.length_map] at this
        simp at this
        rw [this] at gl
        simp at gl
        omega
      refine ⟨_, rfl, a, 7, _, rfl, rfl, hS, ne, by decide, by decide, by rw [List.length_map]; omega, fun p1 H1 s1 q1 => ?_⟩
      refine ⟨13, rfl, p1, _, rfl, q1, fun p2 H2 s2 q2 => ⟨_, rfl, small63 (by show 2 ≤ 1000; decide), fun t ht => ?_⟩⟩
      have e1 : cutV (List.replicate (7 : Int).toNat (r.map V.int)).flatten none (some 13) = ((List.replicate 7 r).flatten.take 13).map V.int := by
        have := cut_to (List.replicate (7 : Int).toNat (r.map V.int)).flatten 13
        rw [show ((13 : Nat) : Int) = 13 from rfl] at this
        rw [this, List.map_take]
        congr 1
        rw [List.map_flatten, List.map_replicate]
        rfl
      rw [e1] at q2
      exact q t p2 ((List.replicate 7 r).flatten.take 13) _ _ (same_upd2 (s1.trans s2) ht) (SqT.of upd_same) (seqT_upd q2 ht) (by rw [List.length_take]; omega)
    refine ⟨_, rfl, rfl, _, rfl, ite2 (fun c5 => ?_) (fun c5 => ?_)⟩
    · refine ⟨_, rfl, _, rfl, k, congrArg V.int hk, a, _, rfl, hS, fun p1 H1 s1 q1 => ?_⟩
      refine ⟨1, rfl, _, rfl, _, _, rfl, rfl, small63 (by show 1 ≤ 1000; decide), fun u hu => ?_⟩
      rw [cut_to] at q1
      refine ⟨p1, u, _, _, rfl, rfl, seqT_upd q1 hu, SqT.of upd_same, sz1 _, fun p2 H2 s2 q2 => ?_⟩
      have s02 := (s1.trans (same_new hu)).trans s2
      refine ⟨_, rfl, _, rfl, _, _, rfl, rfl, (k : Int) + 1, congrArg (fun z => V.int (z + 1)) hk, a, _, rfl, seqT_same s02 hS, fun p3 H3 s3 q3 => ?_⟩
      rw [ek, cut_from] at q3
      refine ⟨p2, p3, _, _, rfl, rfl, seqT_same s3 q2, q3, sz2 _, fun p4 H4 s4 q4 => ⟨_, rfl, small63 (by show 2 ≤ 1000; decide), fun t ht => ?_⟩⟩
      rw [set_three] at q4
      exact q t p4 _ _ _ (same_upd2 ((s02.trans s3).trans s4) ht) (SqT.of upd_same) (seqT_upd q4 ht) (three _)
    refine ⟨_, rfl, rfl, _, rfl, ite2 (fun c6 => ?_) (fun c6 => ?_)⟩
    · refine ⟨_, rfl, _, rfl, k, congrArg V.int hk, a, _, rfl, hS, fun p1 H1 s1 q1 => ?_⟩
      have d0 := Int.emod_nonneg (mixed c 3) (b := 2) (by decide)
      have d1 := Int.emod_lt_of_pos (mixed c 3) (b := 2) (by decide)
      refine ⟨_, rfl, _, rfl, _, rfl, c, 3, rfl, by decide, by decide, _, _, rfl, rfl, (by show (0 : Int) < 2; decide), _, _, rfl, rfl, .inr ⟨by omega, by omega⟩, _, _, rfl, rfl, small63 (by show 1 ≤ 1000; decide), fun u hu => ?_⟩
      rw [cut_to] at q1
      refine ⟨p1, u, _, _, rfl, rfl, seqT_upd q1 hu, SqT.of upd_same, sz1 _, fun p2 H2 s2 q2 => ?_⟩
      have s02 := (s1.trans (same_new hu)).trans s2
      refine ⟨_, rfl, _, rfl, _, _, rfl, rfl, (k : Int) + 1, congrArg (fun z => V.int (z + 1)) hk, a, _, rfl, seqT_same s02 hS, fun p3 H3 s3 q3 => ?_⟩
      rw [ek, cut_from] at q3
      refine ⟨p2, p3, _, _, rfl, rfl, seqT_same s3 q2, q3, sz2 _, fun p4 H4 s4 q4 => ⟨_, rfl, small63 (by show 2 ≤ 1000; decide), fun t ht => ?_⟩⟩
      rw [set_three] at q4
      exact q t p4 _ _ _ (same_upd2 ((s02.trans s3).trans s4) ht) (SqT.of upd_same) (seqT_upd q4 ht) (three _)
    · refine ⟨_, rfl, _, rfl, k, congrArg V.int hk, a, _, rfl, hS, fun p1 H1 s1 q1 => ?_⟩
      refine ⟨_, rfl, small63 (by show 1 ≤ 1000; decide), fun u hu => ?_⟩
      rw [cut_to] at q1
      refine ⟨p1, u, _, _, rfl, rfl, seqT_upd q1 hu, SqT.of upd_same, sz1 _, fun p2 H2 s2 q2 => ?_⟩
      have s02 := (s1.trans (same_new hu)).trans s2
      refine ⟨_, rfl, _, rfl, _, _, rfl, rfl, (k : Int) + 1, congrArg (fun z => V.int (z + 1)) hk, a, _, rfl, seqT_same s02 hS, fun p3 H3 s3 q3 => ?_⟩
      rw [ek, cut_from] at q3
      refine ⟨p2, p3, _, _, rfl, rfl, seqT_same s3 q2, q3, sz2 _, fun p4 H4 s4 q4 => ⟨small63 (by show 2 ≤ 1000; decide), fun t ht => ?_⟩⟩
      rw [set_three] at q4
      exact q t p4 _ _ _ (same_upd2 ((s02.trans s3).trans s4) ht) (SqT.of upd_same) (seqT_upd q4 ht) (three _)

/-! ### check_many -/
/-! the refusals: HRMath -/
def sp_check_many (cs : List Addr) : Sp := fun vs H Q E => ∃ (m : Int), vs = [.int m] ∧ ((m < 2 ∨ 100 < m) → ∀ C, cs[0]? = some C → E (.ref C) none H) ∧ (¬ (m < 2 ∨ 100 < m) → Q .non H)
theorem ok_check_many (T : Top K mg) : FnOk P w K mg base (L2N.CX P w) 1 T.f_check_many T.d_check_many ["many"] (sp_check_many T.cs) := by
  refine okN T.F_check_many sc_check_many (fun vs H Q E h => ?_) (fun cdv A outer s H vs Q E hr h => ?_)
  · obtain ⟨m, rfl, kE, kQ⟩ := h
    rfl
  · obtain ⟨m, rfl, kE, kQ⟩ := h
    refine ⟨_, (pss_one (ps_if (PW.pt (pw_or (pt_cmpR op_lt (pv 0) (pe_glob (v := .int 2) rfl T.g_FEWEST_NUMBERS ⟨_, rfl⟩) (nomark _)) (pw_or1 (pt_cmpR op_gt (pv 0) (pe_glob (v := .int 100) rfl T.g_MOST_NUMBERS ⟨_, rfl⟩) (nomark _)))))
      (pss_one (L2N.ps_raise rfl (L2N.takes_of rfl rfl rfl rfl) (L2N.pmk_own PySem.F.excBase_ValueError T.ex_NoNumbers.ex T.ex_NoNumbers.gl T.ex_NoNumbers.kp (raises_own T.ex_NoNumbers.ba T.ex_NoNumbers.ty) rfl)))
      pss_nil)), ?_⟩
    refine ⟨_, rfl, _, _, rfl, rfl, _, rfl, ite2 (fun c => ?_) (fun c => ?_)⟩
    · exact iteT (kE (Or.inl (of_decide_eq_true c)) _ rfl)
    have c1 : ¬ m < 2 := fun z => c (decide_eq_true z)
    refine ⟨_, rfl, _, _, rfl, rfl, _, rfl, ite2 (fun c => ?_) (fun c => ?_)⟩
    · exact kE (Or.inr (of_decide_eq_true c)) _ rfl
    · have c2 : ¬ 100 < m := fun z => c (decide_eq_true z)
      exact kQ (by omega)

/-! ### check_machines -/
def sp_check_machines (cs : List Addr) : Sp := fun vs H Q E => ∃ (m : Int), vs = [.int m] ∧ ((m < 2 ∨ 12 < m) → ∀ C, cs[1]? = some C → E (.ref C) none H) ∧ (¬ (m < 2 ∨ 12 < m) → Q .non H)
theorem ok_check_machines (T : Top K mg) : FnOk P w K mg base (L2N.CX P w) 1 T.f_check_machines T.d_check_machines ["machines"] (sp_check_machines T.cs) := by
  refine okN T.F_check_machines sc_check_machines (fun vs H Q E h => ?_) (fun cdv A outer s H vs Q E hr h => ?_)
  · obtain ⟨m, rfl, kE, kQ⟩ := h
    rfl
  · obtain ⟨m, rfl, kE, kQ⟩ := h
    refine ⟨_, (pss_one (ps_if (PW.pt (pw_or (pt_cmpR op_lt (pv 0) (pe_glob (v := .int 2) rfl T.g_FEWEST_MACHINES ⟨_, rfl⟩) (nomark _)) (pw_or1 (pt_cmpR op_gt (pv 0) (pe_glob (v := .int 12) rfl T.g_MOST_MACHINES ⟨_, rfl⟩) (nomark _)))))
      (pss_one (L2N.ps_raise rfl (L2N.takes_of rfl rfl rfl rfl) (L2N.pmk_own PySem.F.excBase_ValueError T.ex_NoRing.ex T.ex_NoRing.gl T.ex_NoRing.kp (raises_own T.ex_NoRing.ba T.ex_NoRing.ty) rfl)))
      pss_nil)), ?_⟩
    refine ⟨_, rfl, _, _, rfl, rfl, _, rfl, ite2 (fun c => ?_) (fun c => ?_)⟩
    · exact iteT (kE (Or.inl (of_decide_eq_true c)) _ rfl)
    have c1 : ¬ m < 2 := fun z => c (decide_eq_true z)
    refine ⟨_, rfl, _, _, rfl, rfl, _, rfl, ite2 (fun c => ?_) (fun c => ?_)⟩
    · exact kE (Or.inr (of_decide_eq_true c)) _ rfl
    · have c2 : ¬ 12 < m := fun z => c (decide_eq_true z)
      exact kQ (by omega)

/-! ### check_ring -/
def sp_check_ring (K : PySem.W.Frag) (cs : List Addr) : Sp := fun vs H Q E => ∃ (a : Addr) (r : List Int) (m : Int), vs = [.ref a, .int m] ∧ SqT K H a (r.map V.int) ∧ r.length ≤ 1000 ∧
  (∀ j, refuse r m = some j → ∀ C, cs[j]? = some C → E (.ref C) none H) ∧ (refuse r m = none → Q .non H)
theorem ok_check_ring (T : Top K mg) : FnOk P w K mg base (L2N.CX P w) 2 T.f_check_ring T.d_check_ring ["ring", "many"] (sp_check_ring K T.cs) := by
  refine okN T.F_check_ring sc_check_ring (fun vs H Q E h => ?_) (fun cdv A outer s H vs Q E hr h => ?_)
  · obtain ⟨a, r, m, rfl, hS, hl, kE, kQ⟩ := h
    rfl
  · obtain ⟨a, r, m, rfl, hS, hl, kE, kQ⟩ := h
    refine ⟨_, (pss_cons (ps_expr (pe_call (ok_check_many T) (hr.mono (by decide)) (by rfl) T.g_check_many T.F_check_many.kp T.b_check_many .nil (fun _ _ _ _ _ _ i c => L2N.passes_call (L2N.takes_of rfl rfl rfl rfl) (fun _ _ _ _ h => h) _ _ _ _ _ _ i c) (pa_cons (pv 1) pa_nil)))
      (pss_cons (ps_expr (pe_call (ok_check_machines T) (hr.mono (by decide)) (by rfl) T.g_check_machines T.F_check_machines.kp T.b_check_machines .nil (fun _ _ _ _ _ _ i c => L2N.passes_call (L2N.takes_of rfl rfl rfl rfl) (fun _ _ _ _ h => h) _ _ _ _ _ _ i c) (pa_cons (pe_callB (r := HL.rLen K) HL.call_lenK (by rfl) T.n_len (by decide +kernel) (pa_cons (pv 0) pa_nil)) pa_nil)))
      (pss_one (ps_for (passes_of rfl) rfl (pi_tup (pv 0)) (pg_name (i := 2) sc_check_ring.nd rfl (by first | exact Or.inl rfl | exact Or.inr rfl))
      (pss_one (ps_if (PW.pt (pw_or (pt_cmpR op_lt (pv 2) pe_int (nomark _)) (pw_or1 (pt_cmpR op_ge (pv 2) (pv 1) (nomark _)))))
      (pss_one (L2N.ps_raise rfl (L2N.takes_of rfl rfl rfl rfl) (L2N.pmk_own PySem.F.excBase_ValueError T.ex_NoRing.ex T.ex_NoRing.gl T.ex_NoRing.kp (raises_own T.ex_NoRing.ba T.ex_NoRing.ty) rfl)))
      pss_nil)))))), ?_⟩
    refine ⟨_, rfl, m, rfl, fun c C hC => ?_, fun c => ?_⟩
    · exact kE 0 (if_pos c) C hC
    have e1 : ∀ {p : Prop}, (p → badRing r m) → p → refuse r m = some 1 := fun hp h => by
      unfold refuse
      rw [if_neg c, if_pos (hp h)]
    refine ⟨_, rfl, a, _, rfl, .inr hS, _, rfl, fun c1 C hC => ?_, fun c1 => ?_⟩
    · rw [List.length_map] at c1
      exact kE 1 (e1 (fun z => z) (c1.elim (fun z => Or.inl (by omega)) fun z => Or.inr (Or.inl (by omega)))) C hC
    rw [List.length_map] at c1
    have d1 : ¬ (r.length : Int) < 2 := fun z => c1 (Or.inl z)
    have d2 : ¬ 12 < (r.length : Int) := fun z => c1 (Or.inr z)
    refine ⟨_, rfl, a, rfl, ⟨_, hS⟩, for_tup (K := K) (a := a) (xs := r.map V.int) (fun i σ H' => H' = H ∧ (∃ v, σ = [some (.ref a), some (.int m), v]) ∧ ∀ j, j < i → 0 ≤ r.getD j 0 ∧ r.getD j 0 < m) ⟨rfl, ⟨_, rfl⟩, fun j hj => absurd hj (Nat.not_lt_zero j)⟩ (fun i σ H' _ z => by rw [z.1]; exact hS) ?_ ?_⟩
    · rintro i y σ H' hi ⟨rfl, ⟨v, rfl⟩, ok⟩
      have hi2 : i < r.length := by
        have := (List.getElem?_eq_some_iff.mp hi).1
        rw [List.length_map] at this
        exact this
      have ey : y = .int (r.getD i 0) := by
        rw [List.getElem?_map, List.getElem?_eq_getElem hi2] at hi
        rw [List.getD_eq_getElem?_getD, List.getElem?_eq_getElem hi2]
        exact (Option.some.inj hi).symm
      subst ey
      have bad : ∀ {q : Prop}, q → (q → r.getD i 0 < 0 ∨ m ≤ r.getD i 0) → refuse r m = some 1 := fun h hq => e1 (fun z => Or.inr (Or.inr ⟨_, getD_mem hi2, hq z⟩)) h
      refine ⟨_, rfl, _, _, rfl, rfl, _, rfl, ite2 (fun c3 => ?_) (fun c3 => ?_)⟩
      · exact iteT (kE 1 (bad (of_decide_eq_true c3) Or.inl) _ rfl)
      have d3 : ¬ r.getD i 0 < 0 := fun z => c3 (decide_eq_true z)
      refine ⟨_, rfl, _, rfl, _, _, rfl, rfl, _, rfl, ite2 (fun c4 => ?_) (fun c4 => ?_)⟩
      · exact kE 1 (bad (of_decide_eq_true c4) Or.inr) _ rfl
      have d4 : ¬ m ≤ r.getD i 0 := fun z => c4 (decide_eq_true z)
      refine ⟨rfl, ⟨_, rfl⟩, fun j hj => ?_⟩
      by_cases e : j = i
      · subst e
        omega
      · exact ok j (by omega)
    · rintro σ H' ⟨rfl, ⟨v, rfl⟩, ok⟩
      refine kQ ?_
      unfold refuse
      rw [if_neg c, if_neg]
      rintro (h | h | ⟨x, hx, h⟩)
      · omega
      · omega
      · obtain ⟨k, hk, e⟩ := mem_getD hx
        have := ok k (by rw [List.length_map]; exact hk)
        rw [e] at this
        omega

/-! ### may_step -/
def prev (r : List Int) (k : Nat) : Int := if k = 0 then r.getD (r.length - 1) 0 else r.getD (k - 1) 0
theorem at_prev {r : List Int} {k : Nat} (h : k < r.length) : atI (r.map V.int) ((k : Int) - 1) = some (.int (prev r k)) := by
  unfold prev
  by_cases k0 : k = 0
  · subst k0
    rw [if_pos rfl]
    exact at_end (by omega)
  · rw [if_neg k0]
    exact at_int (by omega) (by omega)
theorem may_prev (r : List Int) (k : Nat) : may r k = if k = 0 then decide (r.getD k 0 = prev r k) else !decide (r.getD k 0 = prev r k) := by
  unfold may prev
  by_cases k0 : k = 0
  · subst k0
    rfl
  · rw [if_neg k0, if_neg k0, if_neg k0]
def sp_may_step (K : PySem.W.Frag) : Sp := fun vs H Q _ => ∃ (a : Addr) (r : List Int) (k : Nat), vs = [.ref a, .int k] ∧ SqT K H a (r.map V.int) ∧ k < r.length ∧ Q (.bl (may r k)) H
theorem ok_may_step (T : Top K mg) : FnOk P w K mg base CX0 1 T.f_may_step T.d_may_step ["ring", "machine"] (sp_may_step K) := by
  refine T.F_may_step.ok sc_may_step (fun vs H Q E h => ?_) (fun cdv A outer s H vs Q E hr h => ?_)
  · obtain ⟨a, r, k, rfl, hS, hk, q⟩ := h
    rfl
  · obtain ⟨a, r, k, rfl, hS, hk, q⟩ := h
    refine ⟨_, (pss_cons (ps_set (i := 2) sc_may_step.nd rfl (by first | exact Or.inl rfl | exact Or.inr rfl) (pe_cmpR op_eq (pe_ix (r := rIxT K) ix_tup (pv 0) (pv 1) (fun _ _ => rfl)) (pe_ix (r := rIxT K) ix_tup (pv 0) (pe_op op_sub (pv 1) pe_int) (fun _ _ => rfl)) (nomark _)))
      (pss_one (ps_ret (pe_ifExp (pt_cmpR op_eq (pv 1) pe_int (nomark _)) (pv 2) (pe_not (pv 2)))))), ?_⟩
    rw [may_prev] at q
    refine ⟨_, rfl, _, rfl, a, _, k, _, rfl, rfl, hS, at_int rfl hk, _, rfl, _, rfl, _, _, rfl, rfl, a, _, (k : Int) - 1, _, rfl, rfl, hS, at_prev hk, rfl, ?_⟩
    rw [dec_int2]
    refine ⟨_, rfl, rfl, _, rfl, ite2 (fun c => ?_) (fun c => ?_)⟩
    · have e : k = 0 := by
        have z := V.int.inj (of_decide_eq_true c)
        omega
      rw [if_pos e] at q
      exact ⟨_, rfl, q⟩
    · have e : ¬ k = 0 := fun z => c (decide_eq_true (by rw [z]; rfl))
      rw [if_neg e] at q
      exact ⟨_, rfl, _, rfl, q⟩

/-! ### able -/
def sp_able (K : PySem.W.Frag) (cs : List Addr) : Sp := fun vs H Q E => ∃ (a : Addr) (r : List Int) (m : Int), vs = [.ref a, .int m] ∧ SqT K H a (r.map V.int) ∧ r.length ≤ 1000 ∧
  (∀ j, refuse r m = some j → ∀ C, cs[j]? = some C → E (.ref C) none H) ∧ (refuse r m = none → ∀ p H', ListAt H p (ableV r) H' → Q (.ref p) H')
theorem ok_able (T : Top K mg) : FnOk P w K mg base (L2N.CX P w) 3 T.f_able T.d_able ["ring", "many"] (sp_able K T.cs) := by
  refine okN T.F_able sc_able (fun vs H Q E h => ?_) (fun cdv A outer s H vs Q E hr h => ?_)
  · obtain ⟨a, r, m, rfl, hS, hl, kE, kQ⟩ := h
    rfl
  · obtain ⟨a, r, m, rfl, hS, hl, kE, kQ⟩ := h
    refine ⟨_, (pss_cons (ps_expr (pe_call (ok_check_ring T) (hr.mono (by decide)) (by rfl) T.g_check_ring T.F_check_ring.kp T.b_check_ring .nil (fun _ _ _ _ _ _ i c => L2N.passes_call (L2N.takes_of rfl rfl rfl rfl) (fun _ _ _ _ h => h) _ _ _ _ _ _ i c) (pa_cons (pv 0) (pa_cons (pv 1) pa_nil))))
      (pss_one (ps_ret (pe_lc (own := [("machine", 2)]) (g := gName 2) (by rfl) sc_able.nd (pi_range1 (by rfl) T.n_range (pa_cons (pe_callB (r := HL.rLen K) HL.call_lenK (by rfl) T.n_len (by decide +kernel) (pa_cons (pv 0) pa_nil)) pa_nil)) (blkOk_by (N := ["ring", "many", "machine"]) (sc := defScope s_able) (by decide +kernel)) (fun _ _ _ _ _ => pg_name (i := 2) sc_able.nd rfl (Or.inl rfl)) (fun _ _ _ _ _ => pts_one (pt_val (pe_call (ok_may_step T) (hr.mono (by decide)) (by rfl) T.g_may_step T.F_may_step.kp T.b_may_step .nil pass0 (pa_cons (pv 0) (pa_cons (pv 2) pa_nil))))) (fun _ _ _ _ _ => (pv 2)))))), ?_⟩
    refine ⟨_, rfl, _, rfl, a, r, m, rfl, hS, hl, kE, fun hg => ?_⟩
    refine ⟨_, rfl, a, _, rfl, .inr hS, (r.length : Int), by rw [List.length_map], by omega, by omega, fun D hD => lc_range (lo := 0) (n := r.length) (fun i H' => ListAt H D (ableTo r i) H') (ListAt.mk0 (Same.refl H) hD) (fun i H' hi L => ?_) fun H' L => ?_⟩
    · refine ⟨rfl, _, rfl, _, rfl, a, r, i, congrArg (fun t => [V.ref a, V.int t]) (by omega), seqT_same L.1 hS, hi, _, rfl, ite2 (fun my => ?_) (fun my => ?_)⟩
      · refine ⟨_, rfl, L.push (Same.refl H') (Nat.le_trans (ableTo_len r i) (by omega)) ?_⟩
        rw [ableTo_yes my, show (0 : Int) + (i : Int) = i by omega]
      · rw [ableTo_no (Bool.eq_false_iff.mpr my)]
        exact L
    · exact kQ hg D H' L

/-! ### check_machine -/
def sp_check_machine (cs : List Addr) : Sp := fun vs H Q E => ∃ (z n : Int), vs = [.int z, .int n] ∧ ((z < 0 ∨ n ≤ z) → ∀ C, cs[2]? = some C → E (.ref C) none H) ∧ (¬ (z < 0 ∨ n ≤ z) → Q .non H)
theorem ok_check_machine (T : Top K mg) : FnOk P w K mg base (L2N.CX P w) 1 T.f_check_machine T.d_check_machine ["machine", "machines"] (sp_check_machine T.cs) := by
  refine okN T.F_check_machine sc_check_machine (fun vs H Q E h => ?_) (fun cdv A outer s H vs Q E hr h => ?_)
  · obtain ⟨z, n, rfl, kE, kQ⟩ := h
    rfl
  · obtain ⟨z, n, rfl, kE, kQ⟩ := h
    refine ⟨_, (pss_one (ps_if (PW.pt (pw_or (pt_cmpR op_lt (pv 0) pe_int (nomark _)) (pw_or1 (pt_cmpR op_ge (pv 0) (pv 1) (nomark _)))))
      (pss_one (L2N.ps_raise rfl (L2N.takes_of rfl rfl rfl rfl) (L2N.pmk_own PySem.F.excBase_ValueError T.ex_NoMachine.ex T.ex_NoMachine.gl T.ex_NoMachine.kp (raises_own T.ex_NoMachine.ba T.ex_NoMachine.ty) rfl)))
      pss_nil)), ?_⟩
    refine ⟨_, rfl, _, _, rfl, rfl, _, rfl, ite2 (fun c => ?_) (fun c => ?_)⟩
    · exact iteT (kE (Or.inl (of_decide_eq_true c)) _ rfl)
    have c1 : ¬ z < 0 := fun y => c (decide_eq_true y)
    refine ⟨_, rfl, _, rfl, _, _, rfl, rfl, _, rfl, ite2 (fun c => ?_) (fun c => ?_)⟩
    · exact kE (Or.inr (of_decide_eq_true c)) _ rfl
    · have c2 : ¬ n ≤ z := fun y => c (decide_eq_true y)
      exact kQ (by omega)

/-! ### taken -/
theorem nxt_zero {m : Int} {r : List Int} (h0 : 0 ≤ r.getD 0 0) (h1 : r.getD 0 0 < m) : nxt m r 0 = if r.getD 0 0 = m - 1 then 0 else r.getD 0 0 + 1 := by
  unfold nxt
  rw [if_pos rfl]
  split
  · rename_i e
    rw [show r.getD 0 0 + 1 = m by omega, Int.emod_self]
  · exact Int.emod_eq_of_lt (by omega) (by omega)
def sp_taken (K : PySem.W.Frag) : Sp := fun vs H Q _ => ∃ (a : Addr) (r : List Int) (m : Int) (k : Nat), vs = [.ref a, .int m, .int k] ∧ SqT K H a (r.map V.int) ∧ k < r.length ∧ 0 ≤ r.getD 0 0 ∧ r.getD 0 0 < m ∧ Q (.int (nxt m r k)) H
theorem ok_taken (T : Top K mg) : FnOk P w K mg base CX0 1 T.f_taken T.d_taken ["ring", "many", "machine"] (sp_taken K) := by
  refine T.F_taken.ok sc_taken (fun vs H Q E h => ?_) (fun cdv A outer s H vs Q E hr h => ?_)
  · obtain ⟨a, r, m, k, rfl, hS, hk, h0, h1, q⟩ := h
    rfl
  · obtain ⟨a, r, m, k, rfl, hS, hk, h0, h1, q⟩ := h
    refine ⟨_, (pss_cons (ps_if (pt_cmpR op_gt (pv 2) pe_int (nomark _))
      (pss_one (ps_ret (pe_ix (r := rIxT K) ix_tup (pv 0) (pe_op op_sub (pv 2) pe_int) (fun _ _ => rfl))))
      pss_nil)
      (pss_cons (ps_set (i := 3) sc_taken.nd rfl (by first | exact Or.inl rfl | exact Or.inr rfl) (pe_op op_sub (pv 1) pe_int))
      (pss_one (ps_ret (pe_ifExp (pt_cmpR op_eq (pe_ix (r := rIxT K) ix_tup (pv 0) pe_int (fun _ _ => rfl)) (pv 3) (nomark _)) pe_int (pe_op op_add (pe_ix (r := rIxT K) ix_tup (pv 0) pe_int (fun _ _ => rfl)) pe_int)))))), ?_⟩
    refine ⟨_, rfl, _, _, rfl, rfl, _, rfl, ite2 (fun c => ?_) (fun c => ?_)⟩
    · have c1 := of_decide_eq_true c
      have k0 : ¬ k = 0 := by omega
      have e : nxt m r k = r.getD (k - 1) 0 := by
        unfold nxt
        rw [if_neg k0]
      rw [e] at q
      exact ⟨_, rfl, _, rfl, _, _, rfl, rfl, a, _, (k : Int) - 1, _, rfl, rfl, hS, at_int (k := k - 1) (by omega) (by omega), q⟩
    · have k0 : k = 0 := by
        have z : ¬ (0 : Int) < k := fun z => c (decide_eq_true z)
        omega
      subst k0
      rw [nxt_zero h0 h1] at q
      refine ⟨_, rfl, _, _, rfl, rfl, ?_⟩
      refine ⟨_, rfl, a, _, 0, _, rfl, rfl, hS, at_int (k := 0) rfl hk, _, rfl, rfl, _, rfl, ite2 (fun c1 => ?_) (fun c1 => ?_)⟩
      · rw [if_pos (V.int.inj (of_decide_eq_true c1))] at q
        exact q
      · rw [if_neg (fun z => c1 (decide_eq_true (congrArg V.int z)))] at q
        exact ⟨_, rfl, a, _, 0, _, rfl, rfl, hS, at_int (k := 0) rfl hk, _, _, rfl, rfl, q⟩

/-! ### after -/
theorem set_cut {r : List Int} {k : Nat} (h : k < r.length) (x : Int) : (r.map V.int).take k ++ (V.int x :: (r.map V.int).drop (k + 1)) = (r.set k x).map V.int := by
  rw [List.set_eq_take_append_cons_drop, if_pos h, List.map_append, List.map_cons, List.map_take, List.map_drop]
def sp_after (K : PySem.W.Frag) (cs : List Addr) : Sp := fun vs H Q E => ∃ (a : Addr) (r : List Int) (m z : Int) (n : Nat), vs = [.ref a, .int m, .int z] ∧ SqT K H a (r.map V.int) ∧ Good n m r ∧
  (∀ j, refuseAt r z = some j → ∀ C, cs[j]? = some C → E (.ref C) none H) ∧ (refuseAt r z = none → ∀ p H', Same H H' → SqT K H' p ((step m r z.toNat).map V.int) → Q (.ref p) H')
theorem ok_after (T : Top K mg) : FnOk P w K mg base (L2N.CX P w) 2 T.f_after T.d_after ["ring", "many", "machine"] (sp_after K T.cs) := by
  refine okN T.F_after sc_after (fun vs H Q E h => ?_) (fun cdv A outer s H vs Q E hr h => ?_)
  · obtain ⟨a, r, m, z, n, rfl, hS, g, kE, kQ⟩ := h
    rfl
  · obtain ⟨a, r, m, z, n, rfl, hS, g, kE, kQ⟩ := h
    refine ⟨_, (pss_cons (ps_expr (pe_call (ok_check_machine T) (hr.mono (by decide)) (by rfl) T.g_check_machine T.F_check_machine.kp T.b_check_machine .nil (fun _ _ _ _ _ _ i c => L2N.passes_call (L2N.takes_of rfl rfl rfl rfl) (fun _ _ _ _ h => h) _ _ _ _ _ _ i c) (pa_cons (pv 2) (pa_cons (pe_callB (r := HL.rLen K) HL.call_lenK (by rfl) T.n_len (by decide +kernel) (pa_cons (pv 0) pa_nil)) pa_nil))))
      (pss_cons (ps_if (pt_not (pt_val (pe_call (ok_may_step T) (hr.mono (by decide)) (by rfl) T.g_may_step T.F_may_step.kp T.b_may_step .nil pass0 (pa_cons (pv 0) (pa_cons (pv 2) pa_nil)))))
      (pss_one (L2N.ps_raise rfl (L2N.takes_of rfl rfl rfl rfl) (L2N.pmk_own PySem.F.excBase_ValueError T.ex_NotNow.ex T.ex_NotNow.gl T.ex_NotNow.kp (raises_own T.ex_NotNow.ba T.ex_NotNow.ty) rfl)))
      pss_nil)
      (pss_one (ps_ret (pe_tup (StX.pa_star (pe_slice (r := HL.rSlB K) HL.sl_tupB (pv 0) po_none (po_some (pv 2))) (pa_cons (pe_call (ok_taken T) (hr.mono (by decide)) (by rfl) T.g_taken T.F_taken.kp T.b_taken .nil pass0 (pa_cons (pv 0) (pa_cons (pv 1) (pa_cons (pv 2) pa_nil)))) (StX.pa_star (pe_slice (r := HL.rSlB K) HL.sl_tupB (pv 0) (po_some (pe_op op_add (pv 2) pe_int)) po_none) pa_nil)))))))), ?_⟩
    have gl := g.len
    have gn := g.n12
    have g2 := g.n2
    have e2 : z < 0 ∨ (r.length : Int) ≤ z → refuseAt r z = some 2 := fun h => if_pos h
    refine ⟨_, rfl, _, rfl, a, _, rfl, .inr hS, _, _, rfl, fun c C hC => ?_, fun c => ?_⟩
    · rw [List.length_map] at c
      exact kE 2 (e2 c) C hC
    rw [List.length_map] at c
    have c1 : ¬ z < 0 := fun q => c (Or.inl q)
    have c2 : ¬ (r.length : Int) ≤ z := fun q => c (Or.inr q)
    obtain ⟨k, rfl⟩ : ∃ k : Nat, z = (k : Int) := ⟨z.toNat, by omega⟩
    have hk : k < r.length := by omega
    have tk : ((k : Int)).toNat = k := rfl
    refine ⟨_, rfl, _, rfl, a, r, k, rfl, hS, hk, _, rfl, ite2 (fun c3 => ?_) (fun c3 => ?_)⟩
    · have e3 : refuseAt r k = some 3 := by
        unfold refuseAt
        rw [if_neg (by omega), tk, if_neg]
        intro q
        rw [q] at c3
        cases c3
      exact kE 3 e3 _ rfl
    have my : may r k = true := by
      cases q : may r k with
      | true => rfl
      | false =>
        rw [q] at c3
        exact absurd rfl c3
    have e4 : refuseAt r k = none := by
      unfold refuseAt
      rw [if_neg (by omega), tk, if_pos my]
    have b0 := g.at (k := 0) (by omega)
    refine ⟨_, rfl, _, rfl, k, rfl, a, _, rfl, hS, fun p1 H1 s1 q1 => ⟨p1, _, rfl, .inl q1, ?_⟩⟩
    have hS1 := seqT_same s1 hS
    refine ⟨_, rfl, _, rfl, _, rfl, a, r, m, k, rfl, hS1, hk, b0.1, b0.2, ?_⟩
    refine ⟨_, rfl, _, rfl, _, _, rfl, rfl, (k : Int) + 1, rfl, a, _, rfl, hS1, fun p2 H2 s2 q2 => ⟨p2, _, rfl, .inl q2, ?_⟩⟩
    have ev : cutV (r.map V.int) none (some (k : Int)) ++ (V.int (nxt m r k) :: (cutV (r.map V.int) (some ((k : Int) + 1)) none ++ [])) = (step m r k).map V.int := by
      have ec : ((k : Int) + 1) = ((k + 1 : Nat) : Int) := rfl
      rw [ec, cut_to, cut_from, List.append_nil]
      exact set_cut hk _
    have ez : (step m r k).length = r.length := step_len
    refine ⟨?_, fun p3 h3 => kQ e4 p3 _ (same_upd2 (s1.trans s2) h3) ?_⟩
    · rw [ev, List.length_map, ez, sizeLine_eq]
      omega
    · rw [tk, ← ev]
      exact SqT.of upd_same

/-! ### stepped -/
/-! one step: HRMath -/
def sp_stepped (K : PySem.W.Frag) (cs : List Addr) : Sp := fun vs H Q E => ∃ (a : Addr) (r : List Int) (m z : Int), vs = [.ref a, .int m, .int z] ∧ SqT K H a (r.map V.int) ∧ r.length ≤ 1000 ∧
  (∀ j, refuseStep r m z = some j → ∀ C, cs[j]? = some C → E (.ref C) none H) ∧ (refuseStep r m z = none → ∀ p H', Same H H' → SqT K H' p ((step m r z.toNat).map V.int) → Q (.ref p) H')
theorem ok_stepped (T : Top K mg) : FnOk P w K mg base (L2N.CX P w) 3 T.f_stepped T.d_stepped ["ring", "many", "machine"] (sp_stepped K T.cs) := by
  refine okN T.F_stepped sc_stepped (fun vs H Q E h => ?_) (fun cdv A outer s H vs Q E hr h => ?_)
  · obtain ⟨a, r, m, z, rfl, hS, hl, kE, kQ⟩ := h
    rfl
  · obtain ⟨a, r, m, z, rfl, hS, hl, kE, kQ⟩ := h
    refine ⟨_, (pss_cons (ps_expr (pe_call (ok_check_ring T) (hr.mono (by decide)) (by rfl) T.g_check_ring T.F_check_ring.kp T.b_check_ring .nil (fun _ _ _ _ _ _ i c => L2N.passes_call (L2N.takes_of rfl rfl rfl rfl) (fun _ _ _ _ h => h) _ _ _ _ _ _ i c) (pa_cons (pv 0) (pa_cons (pv 1) pa_nil))))
      (pss_one (ps_ret (pe_call (ok_after T) (hr.mono (by decide)) (by rfl) T.g_after T.F_after.kp T.b_after .nil (fun _ _ _ _ _ _ i c => L2N.passes_call (L2N.takes_of rfl rfl rfl rfl) (fun _ _ _ _ h => h) _ _ _ _ _ _ i c) (pa_cons (pv 0) (pa_cons (pv 1) (pa_cons (pv 2) pa_nil))))))), ?_⟩
    refine ⟨_, rfl, _, rfl, a, r, m, rfl, hS, hl, fun j hj C hC => ?_, fun hg => ?_⟩
    · exact kE j (by unfold refuseStep; rw [hj]; rfl) C hC
    have g := refuse_none hg
    have e := good_refuseStep g z
    rw [e] at kE kQ
    exact ⟨_, rfl, _, rfl, _, rfl, a, r, m, z, _, rfl, hS, g, kE, kQ⟩

/-! ### gone -/
def sp_gone (K : PySem.W.Frag) (cs : List Addr) : Sp := fun vs H Q E => ∃ (a : Addr) (r : List Int) (m : Int) (o : Addr) (zs : List Int), vs = [.ref a, .int m, .ref o] ∧ SqT K H a (r.map V.int) ∧ r.length ≤ 1000 ∧ SqL K H o (zs.map V.int) ∧ zs.length ≤ 100000 ∧
  (∀ j, (refuse r m).or (refuseGo m r zs) = some j → ∀ C, cs[j]? = some C → ∀ H', Same H H' → E (.ref C) none H') ∧
  ((refuse r m).or (refuseGo m r zs) = none → ∀ p ts H', ListAt H p (ts.map V.ref) H' → TupsAt K H' ts (path m r zs) → Q (.ref p) H')
theorem ok_gone (T : Top K mg) : FnOk P w K mg base (L2N.CX P w) 3 T.f_gone T.d_gone ["ring", "many", "order"] (sp_gone K T.cs) := by
  refine okN T.F_gone sc_gone (fun vs H Q E h => ?_) (fun cdv A outer s H vs Q E hr h => ?_)
  · obtain ⟨a, r, m, o, zs, rfl, hS, hl, hO, hz, kE, kQ⟩ := h
    rfl
  · obtain ⟨a, r, m, o, zs, rfl, hS, hl, hO, hz, kE, kQ⟩ := h
    refine ⟨_, (pss_cons (ps_expr (pe_call (ok_check_ring T) (hr.mono (by decide)) (by rfl) T.g_check_ring T.F_check_ring.kp T.b_check_ring .nil (fun _ _ _ _ _ _ i c => L2N.passes_call (L2N.takes_of rfl rfl rfl rfl) (fun _ _ _ _ h => h) _ _ _ _ _ _ i c) (pa_cons (pv 0) (pa_cons (pv 1) pa_nil))))
      (pss_cons (ps_set (i := 3) sc_gone.nd rfl (by first | exact Or.inl rfl | exact Or.inr rfl) (pe_lst (pa_cons (pv 0) pa_nil)))
      (pss_cons (ps_for (passes_of rfl) rfl (pi_list (pv 2)) (pg_name (i := 4) sc_gone.nd rfl (by first | exact Or.inl rfl | exact Or.inr rfl))
      (pss_one (ps_expr (pe_bm PySem.F.plainAttrs_list PySem.F.slot_list_append PySem.F.type_list_append mt_append (pv 3) (pa_cons (pe_call (ok_after T) (hr.mono (by decide)) (by rfl) T.g_after T.F_after.kp T.b_after .nil (fun _ _ _ _ _ _ i c => L2N.passes_call (L2N.takes_of rfl rfl rfl rfl) (fun _ _ _ _ h => h) _ _ _ _ _ _ i c) (pa_cons (pe_ix (r := rIxL K) ix_list (pv 3) (pe_un un_neg pe_int) (fun _ _ => rfl)) (pa_cons (pv 1) (pa_cons (pv 4) pa_nil)))) pa_nil)))))
      (pss_one (ps_ret (pv 3)))))), ?_⟩
    refine ⟨_, rfl, _, rfl, a, r, m, rfl, hS, hl, fun j hj C hC => ?_, fun hg => ?_⟩
    · exact kE j (by rw [hj]; rfl) C hC H (Same.refl H)
    have g := refuse_none hg
    rw [hg] at kE kQ
    refine ⟨_, rfl, small63 (by show 1 ≤ 1000; decide), fun l hn => ?_⟩
    refine ⟨_, rfl, o, rfl, ⟨_, (same_new hn).seq hO⟩, for_list (K := K) (a := o) (xs := zs.map V.int)
      (fun i σ H' => (∃ v, σ = [some (.ref a), some (.int m), some (.ref o), some (.ref l), v]) ∧ refuseGo m r (zs.take i) = none ∧ ∃ ts, ListAt H l (ts.map V.ref) H' ∧ TupsAt K H' ts (path m r (zs.take i)))
      ⟨⟨_, rfl⟩, rfl, [a], ListAt.mk0 (l := [.ref a]) (Same.refl H) hn, TupsAt.one (seqT_upd hS hn)⟩ (fun i σ H' _ z => by
        obtain ⟨_, _, ts, L, _⟩ := z
        exact L.1.seq hO) ?_ ?_⟩
    · rintro i y σ H' hi ⟨⟨v, rfl⟩, ok, ts, L, tu⟩
      obtain ⟨z, hz2, rfl⟩ : ∃ z, zs[i]? = some z ∧ y = .int z := by
        rw [List.getElem?_map] at hi
        cases e : zs[i]? with
        | none =>
          rw [e] at hi
          cases hi
        | some z =>
          rw [e] at hi
          exact ⟨z, rfl, (Option.some.inj hi).symm⟩
      have hil : i < zs.length := (List.getElem?_eq_some_iff.mp hz2).1
      have tl : (zs.take i).length = i := by rw [List.length_take]; omega
      have nx := take_snoc hz2
      have go := refuseGo_snoc (z := z) ok
      rw [← nx] at go
      have ge : Good r.length m (endOf m r (zs.take i)) := g.endOf
      have pl := path_last (m := m) (zs := zs.take i) (r := r)
      rw [tl] at pl
      have hts : ts.length = i + 1 := by rw [tu.1, path_len, tl]
      have gt : ts[i]? = some (ts[i]'(by omega)) := List.getElem?_eq_getElem (by omega)
      have lastT := tu.2 i _ _ gt pl
      have lastV : atI (ts.map V.ref) (-1) = some (.ref (ts[i]'(by omega))) := at_lastN (n := i) (by rw [List.length_map, hts]) (by rw [List.getElem?_map, gt]; rfl)
      refine ⟨_, rfl, .inl ⟨rfl, _, SqL.of L.2.2⟩, _, rfl, 1, rfl, l, _, -1, _, rfl, rfl, SqL.of L.2.2, lastV, _, rfl, _, rfl, _, _, m, z, _, rfl, lastT, ge, fun j hj C hC => ?_, fun hn2 p2 H2 s2 hp2 => ?_⟩
      · exact kE j (refuseGo_take (i := i + 1) (by rw [go]; exact hj)) C hC H' L.1
      · rw [hn2] at go
        have L2 := L.on s2
        refine ⟨l, _, _, rfl, rfl, L2.2.2, ?_, ⟨_, rfl⟩, go, ts ++ [p2], ?_, ?_⟩
        · rw [List.length_map, hts, sizeLine_eq]
          omega
        · rw [List.map_append]
          exact L2.put _
        · rw [nx, path_snoc]
          exact ((tu.on s2).push hp2).wr L2.2.2
    · rintro σ H' ⟨⟨v, rfl⟩, ok, ts, L, tu⟩
      rw [List.length_map, List.take_length] at ok tu
      exact ⟨_, rfl, kQ ok l ts H' L tu⟩

/-! ### chosen -/
def sp_chosen (K : PySem.W.Frag) : Sp := fun vs H Q _ => ∃ (f : Addr) (ks : List Nat) (o : Addr) (zs : List Int) (i : Nat), vs = [.ref f, .ref o, .int (i : Int)] ∧ SqL K H f (ordV ks) ∧ 0 < ks.length ∧ SqL K H o (zs.map V.int) ∧ Q (.int (choose zs i ks : Nat)) H
theorem ok_chosen (T : Top K mg) : FnOk P w K mg base CX0 1 T.f_chosen T.d_chosen ["machines", "numbers", "step"] (sp_chosen K) := by
  refine T.F_chosen.ok sc_chosen (fun vs H Q E h => ?_) (fun cdv A outer s H vs Q E hr h => ?_)
  · obtain ⟨f, ks, o, zs, i, rfl, hF, h0, hO, q⟩ := h
    rfl
  · obtain ⟨f, ks, o, zs, i, rfl, hF, h0, hO, q⟩ := h
    refine ⟨_, (pss_cons (ps_if (pt_cmpR op_eq (pe_callB (r := HL.rLen K) HL.call_lenK (by rfl) T.n_len (by decide +kernel) (pa_cons (pv 1) pa_nil)) pe_int (nomark _))
      (pss_one (ps_ret (pe_ix (r := rIxL K) ix_list (pv 0) pe_int (fun _ _ => rfl))))
      pss_nil)
      (pss_cons (ps_set (i := 3) sc_chosen.nd rfl (by first | exact Or.inl rfl | exact Or.inr rfl) (pe_ix (r := rIxL K) ix_list (pv 1) (pe_op op_mod (pv 2) (pe_callB (r := HL.rLen K) HL.call_lenK (by rfl) T.n_len (by decide +kernel) (pa_cons (pv 1) pa_nil))) (fun _ _ => rfl)))
      (pss_one (ps_ret (pe_ix (r := rIxL K) ix_list (pv 0) (pe_op op_mod (pv 3) (pe_callB (r := HL.rLen K) HL.call_lenK (by rfl) T.n_len (by decide +kernel) (pa_cons (pv 0) pa_nil))) (fun _ _ => rfl)))))), ?_⟩
    unfold choose place at q
    refine ⟨_, rfl, o, _, rfl, .inl hO, rfl, _, rfl, ite2 (fun c => ?_) (fun c => ?_)⟩
    · have e : zs = [] := by
        have := V.int.inj (of_decide_eq_true c)
        rw [List.length_map] at this
        exact List.eq_nil_of_length_eq_zero (by omega)
      rw [if_pos e] at q
      exact ⟨_, rfl, f, _, 0, _, rfl, rfl, hF, ordV_at (k := 0) rfl h0, q⟩
    · have e : ¬ zs = [] := fun e => c (decide_eq_true (by rw [e]; rfl))
      have lp : 0 < zs.length := List.length_pos_iff.mpr e
      rw [if_neg e] at q
      have lm : ((zs.map V.int).length : Int) = (zs.length : Int) := by rw [List.length_map]
      have e1 : ((i : Int) % (zs.length : Int)) = ((i % zs.length : Nat) : Int) := by simp
      have lt := Nat.mod_lt i (show zs.length > 0 by omega)
      refine ⟨_, rfl, _, rfl, _, rfl, o, _, rfl, .inl hO, _, _, rfl, rfl, (by rw [lm]; show (0 : Int) < (zs.length : Int); omega), ?_⟩
      rw [lm]
      refine ⟨o, _, _, _, rfl, rfl, hO, at_int (k := i % zs.length) e1 lt, ?_⟩
      have lk : ((ordV ks).length : Int) = (ks.length : Int) := by rw [ordV_len]
      have d0 := Int.emod_nonneg (zs.getD (i % zs.length) 0) (b := (ks.length : Int)) (by omega)
      have d1 := Int.emod_lt_of_pos (zs.getD (i % zs.length) 0) (b := (ks.length : Int)) (by omega)
      refine ⟨_, rfl, _, rfl, _, rfl, f, _, rfl, .inl hF, _, _, rfl, rfl, (by rw [lk]; show (0 : Int) < (ks.length : Int); omega), ?_⟩
      rw [lk]
      exact ⟨f, _, _, _, rfl, rfl, hF, ordV_at (k := (zs.getD (i % zs.length) 0 % (ks.length : Int)).toNat) (by omega) (by omega), q⟩

/-! ### drawn -/
def sp_drawn (K : PySem.W.Frag) (cs : List Addr) : Sp := fun vs H Q E => ∃ (a : Addr) (r : List Int) (m : Int) (o : Addr) (zs : List Int) (z : Int), vs = [.ref a, .int m, .ref o, .int z] ∧ SqT K H a (r.map V.int) ∧ r.length ≤ 1000 ∧ SqL K H o (zs.map V.int) ∧ 0 ≤ z ∧ z ≤ 1000 ∧
  (∀ j, refuse r m = some j → ∀ C, cs[j]? = some C → E (.ref C) none H) ∧ (refuse r m = none → ∀ p H', ListAt H p (ordV (draw m zs r z.toNat)) H' → Q (.ref p) H')
theorem ok_drawn (T : Top K mg) : FnOk P w K mg base (L2N.CX P w) 4 T.f_drawn T.d_drawn ["ring", "many", "numbers", "steps"] (sp_drawn K T.cs) := by
  refine okN T.F_drawn sc_drawn (fun vs H Q E h => ?_) (fun cdv A outer s H vs Q E hr h => ?_)
  · obtain ⟨a, r, m, o, zs, z, rfl, hS, hl, hO, z0, z1, kE, kQ⟩ := h
    rfl
  · obtain ⟨a, r, m, o, zs, z, rfl, hS, hl, hO, z0, z1, kE, kQ⟩ := h
    refine ⟨_, (pss_cons (ps_expr (pe_call (ok_check_ring T) (hr.mono (by decide)) (by rfl) T.g_check_ring T.F_check_ring.kp T.b_check_ring .nil (fun _ _ _ _ _ _ i c => L2N.passes_call (L2N.takes_of rfl rfl rfl rfl) (fun _ _ _ _ h => h) _ _ _ _ _ _ i c) (pa_cons (pv 0) (pa_cons (pv 1) pa_nil))))
      (pss_cons (ps_set (i := 4) sc_drawn.nd rfl (by first | exact Or.inl rfl | exact Or.inr rfl) (pe_lst pa_nil))
      (pss_cons (ps_for (passes_of rfl) rfl (pi_range1 (by rfl) T.n_range (pa_cons (pv 3) pa_nil)) (pg_name (i := 5) sc_drawn.nd rfl (by first | exact Or.inl rfl | exact Or.inr rfl))
      (pss_cons (ps_set (i := 6) sc_drawn.nd rfl (by first | exact Or.inl rfl | exact Or.inr rfl) (pe_call (ok_chosen T) (hr.mono (by decide)) (by rfl) T.g_chosen T.F_chosen.kp T.b_chosen .nil pass0 (pa_cons (pe_call (ok_able T) (hr.mono (by decide)) (by rfl) T.g_able T.F_able.kp T.b_able .nil (fun _ _ _ _ _ _ i c => L2N.passes_call (L2N.takes_of rfl rfl rfl rfl) (fun _ _ _ _ h => h) _ _ _ _ _ _ i c) (pa_cons (pv 0) (pa_cons (pv 1) pa_nil))) (pa_cons (pv 2) (pa_cons (pv 5) pa_nil)))))
      (pss_cons (ps_expr (pe_bm PySem.F.plainAttrs_list PySem.F.slot_list_append PySem.F.type_list_append mt_append (pv 4) (pa_cons (pv 6) pa_nil)))
      (pss_one (ps_set (i := 0) sc_drawn.nd rfl (by first | exact Or.inl rfl | exact Or.inr rfl) (pe_call (ok_after T) (hr.mono (by decide)) (by rfl) T.g_after T.F_after.kp T.b_after .nil (fun _ _ _ _ _ _ i c => L2N.passes_call (L2N.takes_of rfl rfl rfl rfl) (fun _ _ _ _ h => h) _ _ _ _ _ _ i c) (pa_cons (pv 0) (pa_cons (pv 1) (pa_cons (pv 6) pa_nil)))))))))
      (pss_one (ps_ret (pv 4)))))), ?_⟩
    refine ⟨_, rfl, _, rfl, a, r, m, rfl, hS, hl, kE, fun hg => ?_⟩
    have g := refuse_none hg
    have n2 := g.n2
    have n12 := g.n12
    refine ⟨Nat.zero_le _, fun l hn => ?_⟩
    refine ⟨_, rfl, z, rfl, by omega, by omega, for_range (lo := 0) (n := z.toNat)
      (fun i σ H' => ∃ (t : Addr) (v1 v2 : Option V), σ = [some (.ref t), some (.int m), some (.ref o), some (.int z), some (.ref l), v1, v2] ∧ ListAt H l (ordV (draw m zs r i)) H' ∧ SqT K H' t ((run m r (draw m zs r i)).map V.int))
      ⟨a, none, none, rfl, ListAt.mk0 (Same.refl H) hn, seqT_upd hS hn⟩ ?_ ?_⟩
    · rintro i σ H' hi ⟨t, v1, v2, rfl, L, hT⟩
      have gr : Good r.length m (run m r (draw m zs r i)) := g.run
      have grl := gr.len
      refine ⟨_, rfl, _, rfl, t, _, m, rfl, hT, by omega, gr.no, fun _ f H1 L1 => ?_⟩
      have ca := choose_able gr zs i
      refine ⟨_, rfl, _, rfl, f, _, o, zs, i, congrArg (fun y => [V.ref f, V.ref o, V.int y]) (by omega), SqL.of L1.2.2, able_pos (by omega), (L.1.trans L1.1).seq hO, ?_⟩
      have L2 := L.on L1.1
      refine ⟨_, rfl, .inl ⟨rfl, _, SqL.of L2.2.2⟩, _, rfl, l, _, _, rfl, rfl, L2.2.2, ?_, ?_⟩
      · rw [ordV_len, draw_len, sizeLine_eq]
        omega
      have L3 := L2.put (ordV (draw m zs r (i + 1)))
      rw [draw_succ, ordV_snoc] at L3
      have hT3 := seqT_wr (zs := ordV (draw m zs r i) ++ [V.int ((choose zs i (able (run m r (draw m zs r i))) : Nat) : Int)]) L2.2.2 (seqT_same L1.1 hT)
      refine ⟨_, rfl, _, rfl, _, rfl, t, _, m, _, _, rfl, hT3, gr, at_go ca, fun _ t2 H4 s4 ht2 => ?_⟩
      refine ⟨t2, _, _, rfl, ?_, ?_⟩
      · rw [draw_succ, ordV_snoc]
        exact L3.on s4
      · rw [draw_succ, run_snoc]
        exact ht2
    · rintro σ H' ⟨t, v1, v2, rfl, L, hT⟩
      exact ⟨_, rfl, kQ hg l H' L⟩

/-! ### traced -/
def sp_traced (K : PySem.W.Frag) (cs : List Addr) : Sp := fun vs H Q E => ∃ (a : Addr) (r : List Int) (m : Int) (o : Addr) (zs : List Int), vs = [.ref a, .int m, .ref o] ∧ SqT K H a (r.map V.int) ∧ r.length ≤ 1000 ∧ SqL K H o (zs.map V.int) ∧ zs.length ≤ 100000 ∧
  (∀ j, (refuse r m).or (refuseGo m r zs) = some j → ∀ C, cs[j]? = some C → ∀ H', Same H H' → E (.ref C) none H') ∧
  ((refuse r m).or (refuseGo m r zs) = none → ∀ p H', ListAt H p ((trc r.length zs).1.map V.int) H' → Q (.ref p) H')
theorem ok_traced (T : Top K mg) : FnOk P w K mg base (L2N.CX P w) 3 T.f_traced T.d_traced ["ring", "many", "order"] (sp_traced K T.cs) := by
  refine okN T.F_traced sc_traced (fun vs H Q E h => ?_) (fun cdv A outer s H vs Q E hr h => ?_)
  · obtain ⟨a, r, m, o, zs, rfl, hS, hl, hO, hz, kE, kQ⟩ := h
    rfl
  · obtain ⟨a, r, m, o, zs, rfl, hS, hl, hO, hz, kE, kQ⟩ := h
    refine ⟨_, (pss_cons (ps_expr (pe_call (ok_check_ring T) (hr.mono (by decide)) (by rfl) T.g_check_ring T.F_check_ring.kp T.b_check_ring .nil (fun _ _ _ _ _ _ i c => L2N.passes_call (L2N.takes_of rfl rfl rfl rfl) (fun _ _ _ _ h => h) _ _ _ _ _ _ i c) (pa_cons (pv 0) (pa_cons (pv 1) pa_nil))))
      (pss_cons (ps_set (i := 3) sc_traced.nd rfl (by first | exact Or.inl rfl | exact Or.inr rfl) (pe_listRg rfl (by rfl) T.n_list (prg_1 (by rfl) T.n_range (pe_callB (r := HL.rLen K) HL.call_lenK (by rfl) T.n_len (by decide +kernel) (pa_cons (pv 0) pa_nil)))))
      (pss_cons (ps_set (i := 4) sc_traced.nd rfl (by first | exact Or.inl rfl | exact Or.inr rfl) (pe_callB (r := HL.rLen K) HL.call_lenK (by rfl) T.n_len (by decide +kernel) (pa_cons (pv 0) pa_nil)))
      (pss_cons (ps_for (passes_of rfl) rfl (pi_list (pv 2)) (pg_name (i := 5) sc_traced.nd rfl (by first | exact Or.inl rfl | exact Or.inr rfl))
      (pss_cons (ps_set (i := 0) sc_traced.nd rfl (by first | exact Or.inl rfl | exact Or.inr rfl) (pe_call (ok_after T) (hr.mono (by decide)) (by rfl) T.g_after T.F_after.kp T.b_after .nil (fun _ _ _ _ _ _ i c => L2N.passes_call (L2N.takes_of rfl rfl rfl rfl) (fun _ _ _ _ h => h) _ _ _ _ _ _ i c) (pa_cons (pv 0) (pa_cons (pv 1) (pa_cons (pv 5) pa_nil)))))
      (pss_one (ps_if (pt_cmpR op_eq (pv 5) pe_int (nomark _))
      (pss_cons (ps_asg (pv 4) (pg_sub (pv 3) pe_int set_list))
      (pss_one (ps_aug (i := 4) sc_traced.nd rfl (by first | exact Or.inl rfl | exact Or.inr rfl) pe_int ip_add)))
      (pss_one (ps_asg (pe_ix (r := rIxL K) ix_list (pv 3) (pe_op op_sub (pv 5) pe_int) (fun _ _ => rfl)) (pg_sub (pv 3) (pv 5) set_list)))))))
      (pss_one (ps_ret (pv 3))))))), ?_⟩
    refine ⟨_, rfl, _, rfl, a, r, m, rfl, hS, hl, fun j hj C hC => ?_, fun hg => ?_⟩
    · exact kE j (by rw [hj]; rfl) C hC H (Same.refl H)
    have g := refuse_none hg
    rw [hg] at kE kQ
    have n2 := g.n2
    have n12 := g.n12
    have lm : ((r.map V.int).length : Int) = (r.length : Int) := by rw [List.length_map]
    refine ⟨_, rfl, a, _, rfl, .inr hS, (r.length : Int), congrArg V.int lm, RgOk.of_le (by omega) (by omega) (by omega) (by omega), fun l hn => ?_⟩
    rw [rgV_marks]
    refine ⟨_, rfl, a, _, rfl, .inr (seqT_upd hS hn), ?_⟩
    rw [lm]
    refine ⟨_, rfl, o, rfl, ⟨_, (same_new hn).seq hO⟩, for_list (K := K) (a := o) (xs := zs.map V.int)
      (fun i σ H' => ∃ (t : Addr) (v : Option V), σ = [some (.ref t), some (.int m), some (.ref o), some (.ref l), some (.int ((r.length : Int) + ((trc r.length (zs.take i)).2 : Nat))), v] ∧ refuseGo m r (zs.take i) = none ∧ ListAt H l ((trc r.length (zs.take i)).1.map V.int) H' ∧ SqT K H' t ((endOf m r (zs.take i)).map V.int))
      ⟨a, _, rfl, rfl, ListAt.mk0 (Same.refl H) hn, seqT_upd hS hn⟩ (fun i σ H' _ z => by
        obtain ⟨_, _, _, _, L, _⟩ := z
        exact L.1.seq hO) ?_ ?_⟩
    · rintro i y σ H' hi ⟨t, v, rfl, ok, L, hT⟩
      obtain ⟨z, hz2, rfl⟩ := ints_get hi
      have nx := take_snoc hz2
      have go := refuseGo_snoc (z := z) ok
      rw [← nx] at go
      have ge : Good r.length m (endOf m r (zs.take i)) := g.endOf
      have gel := ge.len
      have sl := trc_len r.length (zs.take i)
      refine ⟨_, rfl, _, rfl, _, rfl, t, _, m, z, _, rfl, hT, ge, fun j hj C hC => ?_, fun hn2 p2 H2 s2 hp2 => ?_⟩
      · exact kE j (refuseGo_take (i := i + 1) (by rw [go]; exact hj)) C hC H' L.1
      rw [hn2] at go
      obtain ⟨z0, z1, _⟩ := refuseAt_none hn2
      obtain ⟨k, rfl⟩ : ∃ k : Nat, z = (k : Int) := ⟨z.toNat, by omega⟩
      have hk : k < r.length := by omega
      have tk : ((k : Int)).toNat = k := rfl
      have L2 := L.on s2
      have eT := trc_snoc r.length (zs.take i) (k : Int)
      rw [← nx] at eT
      rw [tk] at hp2
      have eE : endOf m r (zs.take (i + 1)) = step m (endOf m r (zs.take i)) k := by rw [nx, endOf_snoc]; rfl
      rcases hp : trc r.length (zs.take i) with ⟨s, c⟩
      rw [hp] at L2 eT sl
      have sl' : s.length = r.length := sl
      refine ⟨_, rfl, rfl, _, rfl, ite2 (fun c0 => ?_) (fun c0 => ?_)⟩
      · have k0 : k = 0 := by
          have := V.int.inj (of_decide_eq_true c0)
          omega
        subst k0
        have e1 : tr1 r.length (s, c) ((0 : Nat) : Int) = (s.set 0 ((r.length : Int) + c), c + 1) := tr1_zero _ _ _
        rw [e1] at eT
        refine ⟨_, rfl, _, rfl, l, _, 0, 0, rfl, rfl, L2.2.2, ixN_nat (k := 0) (by rw [List.length_map, sl']; exact hk), ?_⟩
        have Lb := L2.put ((s.set 0 ((r.length : Int) + c)).map V.int)
        have ez : (s.map V.int).set 0 (V.int ((r.length : Int) + c)) = (s.set 0 ((r.length : Int) + c)).map V.int := by rw [List.map_set]
        refine ⟨_, rfl, _, _, rfl, rfl, p2, some (.int ((0 : Nat) : Int)), ?_, go, ?_, ?_⟩
        · rw [eT]
          show _ = [some (V.ref p2), some (V.int m), some (V.ref o), some (V.ref l), some (V.int ((r.length : Int) + ((c + 1 : Nat) : Int))), some (V.int ((0 : Nat) : Int))]
          rw [show (r.length : Int) + ((c + 1 : Nat) : Int) = r.length + (c : Int) + 1 by omega]
          rfl
        · rw [eT]
          show ListAt H l ((s.set 0 ((r.length : Int) + c)).map V.int) _
          rw [← ez] at Lb ⊢
          exact Lb
        · rw [eE]
          exact seqT_wr L2.2.2 hp2
      · have k0 : k ≠ 0 := fun e => c0 (decide_eq_true (by rw [e]; rfl))
        rw [tr1_pos _ _ _ k0] at eT
        refine ⟨_, rfl, _, rfl, _, _, rfl, rfl, l, _, _, _, rfl, rfl, SqL.of L2.2.2, at_int (k := k - 1) (by omega) (by omega), _, rfl, _, rfl, l, _, k, k, rfl, rfl, L2.2.2, ixN_nat (by rw [List.length_map, sl']; exact hk), ?_⟩
        have Lb := L2.put ((s.set k (s.getD (k - 1) 0)).map V.int)
        have ez : (s.map V.int).set k (V.int (s.getD (k - 1) 0)) = (s.set k (s.getD (k - 1) 0)).map V.int := by rw [List.map_set]
        refine ⟨p2, some (.int (k : Int)), ?_, go, ?_, ?_⟩
        · rw [eT]
          rfl
        · rw [eT]
          show ListAt H l ((s.set k (s.getD (k - 1) 0)).map V.int) _
          rw [← ez] at Lb ⊢
          exact Lb
        · rw [eE]
          exact seqT_wr L2.2.2 hp2
    · rintro σ H' ⟨t, v, rfl, ok, L, hT⟩
      rw [List.length_map, List.take_length] at ok L
      exact ⟨_, rfl, kQ ok l H' L⟩

/-! ### healed -/
def sp_healed (K : PySem.W.Frag) (cs : List Addr) : Sp := fun vs H Q E => ∃ (a : Addr) (r : List Int) (m : Int), vs = [.ref a, .int m] ∧ SqT K H a (r.map V.int) ∧ r.length ≤ 1000 ∧
  (∀ j, refuse r m = some j → ∀ C, cs[j]? = some C → E (.ref C) none H) ∧ (refuse r m = none → ∀ H', Same H H' → Q (.bl (decide ((able r).length = 1))) H')
theorem ok_healed (T : Top K mg) : FnOk P w K mg base (L2N.CX P w) 4 T.f_healed T.d_healed ["ring", "many"] (sp_healed K T.cs) := by
  refine okN T.F_healed sc_healed (fun vs H Q E h => ?_) (fun cdv A outer s H vs Q E hr h => ?_)
  · obtain ⟨a, r, m, rfl, hS, hl, kE, kQ⟩ := h
    rfl
  · obtain ⟨a, r, m, rfl, hS, hl, kE, kQ⟩ := h
    refine ⟨_, (pss_one (ps_ret (pe_cmpR op_eq (pe_callB (r := HL.rLen K) HL.call_lenK (by rfl) T.n_len (by decide +kernel) (pa_cons (pe_call (ok_able T) (hr.mono (by decide)) (by rfl) T.g_able T.F_able.kp T.b_able .nil (fun _ _ _ _ _ _ i c => L2N.passes_call (L2N.takes_of rfl rfl rfl rfl) (fun _ _ _ _ h => h) _ _ _ _ _ _ i c) (pa_cons (pv 0) (pa_cons (pv 1) pa_nil))) pa_nil)) pe_int (nomark _)))), ?_⟩
    refine ⟨_, rfl, _, rfl, a, r, m, rfl, hS, hl, kE, fun hg p H' L => ?_⟩
    refine ⟨p, _, rfl, .inl (SqL.of L.2.2), rfl, ?_⟩
    have e : decide (V.int ((ableV r).length : Int) = V.int 1) = decide ((able r).length = 1) := by
      rw [ableV_len]
      exact dec_nat _ 1
    rw [e]
    exact kQ hg H' L.1

/-! ### check_enough -/
def sp_check_enough (cs : List Addr) : Sp := fun vs H Q E => ∃ (m n : Int), vs = [.int m, .int n] ∧ (m < n → ∀ C, cs[0]? = some C → E (.ref C) none H) ∧ (¬ m < n → Q .non H)
theorem ok_check_enough (T : Top K mg) : FnOk P w K mg base (L2N.CX P w) 1 T.f_check_enough T.d_check_enough ["many", "machines"] (sp_check_enough T.cs) := by
  refine okN T.F_check_enough sc_check_enough (fun vs H Q E h => ?_) (fun cdv A outer s H vs Q E hr h => ?_)
  · obtain ⟨m, n, rfl, kE, kQ⟩ := h
    rfl
  · obtain ⟨m, n, rfl, kE, kQ⟩ := h
    refine ⟨_, (pss_one (ps_if (pt_cmpR op_lt (pv 0) (pv 1) (nomark _))
      (pss_one (L2N.ps_raise rfl (L2N.takes_of rfl rfl rfl rfl) (L2N.pmk_own PySem.F.excBase_ValueError T.ex_NoNumbers.ex T.ex_NoNumbers.gl T.ex_NoNumbers.kp (raises_own T.ex_NoNumbers.ba T.ex_NoNumbers.ty) rfl)))
      pss_nil)), ?_⟩
    refine ⟨_, rfl, _, rfl, _, _, rfl, rfl, _, rfl, ite2 (fun c => ?_) (fun c => ?_)⟩
    · exact kE (of_decide_eq_true c) _ rfl
    · exact kQ fun y => c (decide_eq_true y)

/-! ### healing -/
def sp_healing (K : PySem.W.Frag) (cs : List Addr) : Sp := fun vs H Q E => ∃ (a : Addr) (r : List Int) (m : Int) (o : Addr) (zs : List Int), vs = [.ref a, .int m, .ref o] ∧ SqT K H a (r.map V.int) ∧ r.length ≤ 1000 ∧ SqL K H o (zs.map V.int) ∧
  (∀ j, (refuse r m).or (if m < r.length then some 0 else none) = some j → ∀ C, cs[j]? = some C → E (.ref C) none H) ∧
  ((refuse r m).or (if m < r.length then some 0 else none) = none → ∀ N p H', sick m r (draw m zs r N) → (able (run m r (draw m zs r N))).length = 1 → N ≤ 198 → ListAt H p (ordV (draw m zs r N)) H' → Q (.ref p) H')
theorem ok_healing (T : Top K mg) : FnOk P w K mg base (L2N.CX P w) 5 T.f_healing T.d_healing ["ring", "many", "numbers"] (sp_healing K T.cs) := by
  refine okN T.F_healing sc_healing (fun vs H Q E h => ?_) (fun cdv A outer s H vs Q E hr h => ?_)
  · obtain ⟨a, r, m, o, zs, rfl, hS, hl, hO, kE, kQ⟩ := h
    rfl
  · obtain ⟨a, r, m, o, zs, rfl, hS, hl, hO, kE, kQ⟩ := h
    refine ⟨_, (pss_cons (ps_expr (pe_call (ok_check_ring T) (hr.mono (by decide)) (by rfl) T.g_check_ring T.F_check_ring.kp T.b_check_ring .nil (fun _ _ _ _ _ _ i c => L2N.passes_call (L2N.takes_of rfl rfl rfl rfl) (fun _ _ _ _ h => h) _ _ _ _ _ _ i c) (pa_cons (pv 0) (pa_cons (pv 1) pa_nil))))
      (pss_cons (ps_expr (pe_call (ok_check_enough T) (hr.mono (by decide)) (by rfl) T.g_check_enough T.F_check_enough.kp T.b_check_enough .nil (fun _ _ _ _ _ _ i c => L2N.passes_call (L2N.takes_of rfl rfl rfl rfl) (fun _ _ _ _ h => h) _ _ _ _ _ _ i c) (pa_cons (pv 1) (pa_cons (pe_callB (r := HL.rLen K) HL.call_lenK (by rfl) T.n_len (by decide +kernel) (pa_cons (pv 0) pa_nil)) pa_nil))))
      (pss_cons (ps_set (i := 3) sc_healing.nd rfl (by first | exact Or.inl rfl | exact Or.inr rfl) (pe_lst pa_nil))
      (pss_cons (ps_while (passes_of rfl) (pt_not (pt_val (pe_call (ok_healed T) (hr.mono (by decide)) (by rfl) T.g_healed T.F_healed.kp T.b_healed .nil (fun _ _ _ _ _ _ i c => L2N.passes_call (L2N.takes_of rfl rfl rfl rfl) (fun _ _ _ _ h => h) _ _ _ _ _ _ i c) (pa_cons (pv 0) (pa_cons (pv 1) pa_nil)))))
      (pss_cons (ps_set (i := 4) sc_healing.nd rfl (by first | exact Or.inl rfl | exact Or.inr rfl) (pe_call (ok_chosen T) (hr.mono (by decide)) (by rfl) T.g_chosen T.F_chosen.kp T.b_chosen .nil pass0 (pa_cons (pe_call (ok_able T) (hr.mono (by decide)) (by rfl) T.g_able T.F_able.kp T.b_able .nil (fun _ _ _ _ _ _ i c => L2N.passes_call (L2N.takes_of rfl rfl rfl rfl) (fun _ _ _ _ h => h) _ _ _ _ _ _ i c) (pa_cons (pv 0) (pa_cons (pv 1) pa_nil))) (pa_cons (pv 2) (pa_cons (pe_callB (r := HL.rLen K) HL.call_lenK (by rfl) T.n_len (by decide +kernel) (pa_cons (pv 3) pa_nil)) pa_nil)))))
      (pss_cons (ps_expr (pe_bm PySem.F.plainAttrs_list PySem.F.slot_list_append PySem.F.type_list_append mt_append (pv 3) (pa_cons (pv 4) pa_nil)))
      (pss_one (ps_set (i := 0) sc_healing.nd rfl (by first | exact Or.inl rfl | exact Or.inr rfl) (pe_call (ok_after T) (hr.mono (by decide)) (by rfl) T.g_after T.F_after.kp T.b_after .nil (fun _ _ _ _ _ _ i c => L2N.passes_call (L2N.takes_of rfl rfl rfl rfl) (fun _ _ _ _ h => h) _ _ _ _ _ _ i c) (pa_cons (pv 0) (pa_cons (pv 1) (pa_cons (pv 4) pa_nil)))))))))
      (pss_one (ps_ret (pv 3))))))), ?_⟩
    refine ⟨_, rfl, _, rfl, a, r, m, rfl, hS, hl, fun j hj => kE j (by rw [hj]; rfl), fun hg => ?_⟩
    have g := refuse_none hg
    rw [hg] at kE kQ
    have n2 := g.n2
    have n12 := g.n12
    refine ⟨_, rfl, _, rfl, a, _, rfl, .inr hS, _, _, rfl, fun c C hC => ?_, fun c => ?_⟩
    · rw [List.length_map] at c
      exact kE 0 (by rw [if_pos c]; rfl) C hC
    rw [List.length_map] at c
    rw [if_neg c] at kQ
    have hm : (r.length : Int) ≤ m := by omega
    refine ⟨Nat.zero_le _, fun l hn => ?_⟩
    refine ⟨fun mm σ H' => ∃ (i : Nat) (t : Addr) (v : Option V), mm = 200 - i ∧ σ = [some (.ref t), some (.int m), some (.ref o), some (.ref l), v] ∧ sick m r (draw m zs r i) ∧ ListAt H l (ordV (draw m zs r i)) H' ∧ SqT K H' t ((run m r (draw m zs r i)).map V.int),
      ⟨_, 0, a, none, rfl, rfl, trivial, ListAt.mk0 (Same.refl H) hn, seqT_upd hS hn⟩, ?_⟩
    rintro mm σ H' ⟨i, t, v, rfl, rfl, hs, L, hT⟩
    have gr : Good r.length m (run m r (draw m zs r i)) := g.run
    have grl := gr.len
    have short := draw_short g hm hs
    refine ⟨_, rfl, _, rfl, t, _, m, rfl, hT, by omega, gr.no, fun _ H1 s1 => ⟨_, rfl, ?_⟩⟩
    by_cases h1 : (able (run m r (draw m zs r i))).length = 1
    · rw [decide_eq_true h1]
      refine iteF ?_
      exact ⟨_, rfl, kQ rfl i l H1 hs h1 (by omega) (L.on s1)⟩
    rw [decide_eq_false h1]
    refine iteT ?_
    have hs2 := draw_sick i hs h1
    have short2 := draw_short g hm hs2
    refine ⟨fun σ' H2 => ∃ (t : Addr) (v : Option V), σ' = [some (.ref t), some (.int m), some (.ref o), some (.ref l), v] ∧ ListAt H l (ordV (draw m zs r (i + 1))) H2 ∧ SqT K H2 t ((run m r (draw m zs r (i + 1))).map V.int),
      fun σ' H2 ⟨t2, v2, e, L2, T2⟩ => ⟨200 - (i + 1), by omega, i + 1, t2, v2, rfl, e, hs2, L2, T2⟩, ?_⟩
    have hT1 := seqT_same s1 hT
    have La := L.on s1
    refine ⟨_, rfl, _, rfl, t, _, m, rfl, hT1, by omega, gr.no, fun _ f H2 L1 => ?_⟩
    have ca := choose_able gr zs i
    have L2 := La.on L1.1
    refine ⟨_, rfl, _, rfl, l, _, rfl, .inl (SqL.of L2.2.2), f, _, o, zs, i, congrArg (fun y => [V.ref f, V.ref o, V.int y]) (by rw [ordV_len, draw_len]), SqL.of L1.2.2, able_pos (by omega), L2.1.seq hO, ?_⟩
    refine ⟨_, rfl, .inl ⟨rfl, _, SqL.of L2.2.2⟩, _, rfl, l, _, _, rfl, rfl, L2.2.2, ?_, ?_⟩
    · rw [ordV_len, draw_len, sizeLine_eq]
      omega
    have L3 := L2.put (ordV (draw m zs r (i + 1)))
    rw [draw_succ, ordV_snoc] at L3
    have hT3 := seqT_wr (zs := ordV (draw m zs r i) ++ [V.int ((choose zs i (able (run m r (draw m zs r i))) : Nat) : Int)]) L2.2.2 (seqT_same L1.1 hT1)
    refine ⟨_, rfl, _, rfl, _, rfl, t, _, m, _, _, rfl, hT3, gr, at_go ca, fun _ t2 H4 s4 ht2 => ?_⟩
    refine ⟨t2, _, rfl, ?_, ?_⟩
    · rw [draw_succ, ordV_snoc]
      exact L3.on s4
    · rw [draw_succ, run_snoc]
      exact ht2

/-! ### turns -/
theorem turn_val (x i n : Nat) : ((x : Int) + (0 + (i : Int))) % (n : Int) = (((x + i) % n : Nat) : Int) := by
  rw [Int.zero_add]
  simp
def sp_turns (K : PySem.W.Frag) (cs : List Addr) : Sp := fun vs H Q E => ∃ (a : Addr) (r : List Int) (m : Int), vs = [.ref a, .int m] ∧ SqT K H a (r.map V.int) ∧ r.length ≤ 1000 ∧
  (∀ j, (refuse r m).or (if (able r).length = 1 then none else some 4) = some j → ∀ C, cs[j]? = some C → ∀ H', Same H H' → E (.ref C) none H') ∧
  ((refuse r m).or (if (able r).length = 1 then none else some 4) = none → ∀ p H', ListAt H p (ordV (turnL r.length ((able r).getD 0 0) r.length)) H' → Q (.ref p) H')
theorem ok_turns (T : Top K mg) : FnOk P w K mg base (L2N.CX P w) 5 T.f_turns T.d_turns ["ring", "many"] (sp_turns K T.cs) := by
  refine okN T.F_turns sc_turns (fun vs H Q E h => ?_) (fun cdv A outer s H vs Q E hr h => ?_)
  · obtain ⟨a, r, m, rfl, hS, hl, kE, kQ⟩ := h
    rfl
  · obtain ⟨a, r, m, rfl, hS, hl, kE, kQ⟩ := h
    refine ⟨_, (pss_cons (ps_if (pt_not (pt_val (pe_call (ok_healed T) (hr.mono (by decide)) (by rfl) T.g_healed T.F_healed.kp T.b_healed .nil (fun _ _ _ _ _ _ i c => L2N.passes_call (L2N.takes_of rfl rfl rfl rfl) (fun _ _ _ _ h => h) _ _ _ _ _ _ i c) (pa_cons (pv 0) (pa_cons (pv 1) pa_nil)))))
      (pss_one (L2N.ps_raise rfl (L2N.takes_of rfl rfl rfl rfl) (L2N.pmk_own PySem.F.excBase_ValueError T.ex_NotHealed.ex T.ex_NotHealed.gl T.ex_NotHealed.kp (raises_own T.ex_NotHealed.ba T.ex_NotHealed.ty) rfl)))
      pss_nil)
      (pss_cons (ps_set (i := 2) sc_turns.nd rfl (by first | exact Or.inl rfl | exact Or.inr rfl) (pe_ix (r := rIxL K) ix_list (pe_call (ok_able T) (hr.mono (by decide)) (by rfl) T.g_able T.F_able.kp T.b_able .nil (fun _ _ _ _ _ _ i c => L2N.passes_call (L2N.takes_of rfl rfl rfl rfl) (fun _ _ _ _ h => h) _ _ _ _ _ _ i c) (pa_cons (pv 0) (pa_cons (pv 1) pa_nil))) pe_int (fun _ _ => rfl)))
      (pss_one (ps_ret (pe_lc (own := [("further", 3)]) (g := gName 3) (tt := tYes) (by rfl) sc_turns.nd (pi_range1 (by rfl) T.n_range (pa_cons (pe_callB (r := HL.rLen K) HL.call_lenK (by rfl) T.n_len (by decide +kernel) (pa_cons (pv 0) pa_nil)) pa_nil)) (blkOk_by (N := ["ring", "many", "first", "further"]) (sc := defScope s_turns) (by decide +kernel)) (fun _ _ _ _ _ => pg_name (i := 3) sc_turns.nd rfl (Or.inl rfl)) (fun _ _ _ _ _ => pts_nil) (fun _ _ _ _ _ => (pe_op op_mod (pe_op op_add (pv 2) (pv 3)) (pe_callB (r := HL.rLen K) HL.call_lenK (by rfl) T.n_len (by decide +kernel) (pa_cons (pv 0) pa_nil))))))))), ?_⟩
    refine ⟨_, rfl, _, rfl, a, r, m, rfl, hS, hl, fun j hj C hC => kE j (by rw [hj]; rfl) C hC H (Same.refl H), fun hg H1 s1 => ⟨_, rfl, ?_⟩⟩
    have g := refuse_none hg
    have n2 := g.n2
    rw [hg] at kE kQ
    by_cases c : (able r).length = 1
    · rw [decide_eq_true c]
      refine iteF ?_
      rw [if_pos c] at kQ
      refine ⟨_, rfl, _, rfl, a, r, m, rfl, seqT_same s1 hS, hl, g.no, fun _ f H2 L2 => ?_⟩
      refine ⟨f, _, 0, _, rfl, rfl, SqL.of L2.2.2, ordV_at (k := 0) rfl (by omega), ?_⟩
      have s2 := s1.trans L2.1
      have hS2 := seqT_same s2 hS
      refine ⟨_, rfl, a, _, rfl, .inr hS2, (r.length : Int), by rw [List.length_map], by omega, by omega, fun D hD => lc_range (lo := 0) (n := r.length) (fun i H' => ListAt H2 D (ordV (turnL r.length ((able r).getD 0 0) i)) H') (ListAt.mk0 (Same.refl H2) hD) (fun i H' hi L => ?_) fun H' L => ?_⟩
      · refine ⟨rfl, tyes ?_⟩
        have lm : ((r.map V.int).length : Int) = (r.length : Int) := by rw [List.length_map]
        refine ⟨_, rfl, _, rfl, _, _, rfl, rfl, _, rfl, a, _, rfl, .inr (seqT_same L.1 hS2), _, _, rfl, rfl, (by rw [lm]; show (0 : Int) < (r.length : Int); omega), ?_⟩
        rw [lm]
        refine L.push (Same.refl H') ?_ ?_
        · rw [ordV_len, turnL_len]
          omega
        · show _ = _ ++ [V.int (((((able r).getD 0 0 : Nat) : Int) + (0 + (i : Int))) % (r.length : Int))]
          rw [turnL_succ, ordV_snoc, turn_val]
      · exact kQ rfl D H' ⟨s2.trans L.1, s2.free L.2.1, L.2.2⟩
    · rw [decide_eq_false c]
      rw [if_neg c] at kE
      exact iteT (kE 4 rfl _ rfl H1 s1)

/-! ### _law_asked -/
theorem or_some {o x : Option Nat} {j i : Nat} (h : o = some j) (e : o.or x = some i) : j = i := by
  rw [h] at e
  exact Option.some.inj e
theorem or_none {o x : Option Nat} {j : Nat} (h : o = some j) (e : o.or x = none) : False := by
  rw [h] at e
  cases e
def sp__law_asked (K : PySem.W.Frag) (cs : List Addr) : Sp := fun vs H Q E => ∃ (a : Addr) (r : List Int) (m w z : Int), vs = [.ref a, .int m, .int w, .int z] ∧ SqT K H a (r.map V.int) ∧ r.length ≤ 1000 ∧
  (∀ j, refuse r m = some j → ∀ C, cs[j]? = some C → ∀ H', Same H H' → E (.ref C) none H') ∧ (refuse r m = none → w = 0 ∧ ∀ H', Same H H' → Q .non H')
theorem ok__law_asked (T : Top K mg) : FnOk P w K mg base (L2N.CX P w) 6 T.f__law_asked T.d__law_asked ["_law_ring_here", "_law_many_here", "_law_way", "_law_machine"] (sp__law_asked K T.cs) := by
  refine okN T.F__law_asked sc__law_asked (fun vs H Q E h => ?_) (fun cdv A outer s H vs Q E hr h => ?_)
  · obtain ⟨a, r, m, w, z, rfl, hS, hl, kE, kQ⟩ := h
    rfl
  · obtain ⟨a, r, m, w, z, rfl, hS, hl, kE, kQ⟩ := h
    refine ⟨_, (pss_one (ps_if (pt_cmpR op_eq (pv 2) pe_int (nomark _))
      (pss_one (ps_expr (pe_call (ok_able T) (hr.mono (by decide)) (by rfl) T.g_able T.F_able.kp T.b_able .nil (fun _ _ _ _ _ _ i c => L2N.passes_call (L2N.takes_of rfl rfl rfl rfl) (fun _ _ _ _ h => h) _ _ _ _ _ _ i c) (pa_cons (pv 0) (pa_cons (pv 1) pa_nil)))))
      (pss_one (ps_if (pt_cmpR op_eq (pv 2) pe_int (nomark _))
      (pss_one (ps_expr (pe_call (ok_stepped T) (hr.mono (by decide)) (by rfl) T.g_stepped T.F_stepped.kp T.b_stepped .nil (fun _ _ _ _ _ _ i c => L2N.passes_call (L2N.takes_of rfl rfl rfl rfl) (fun _ _ _ _ h => h) _ _ _ _ _ _ i c) (pa_cons (pv 0) (pa_cons (pv 1) (pa_cons (pv 3) pa_nil))))))
      (pss_one (ps_if (pt_cmpR op_eq (pv 2) pe_int (nomark _))
      (pss_one (ps_expr (pe_call (ok_gone T) (hr.mono (by decide)) (by rfl) T.g_gone T.F_gone.kp T.b_gone .nil (fun _ _ _ _ _ _ i c => L2N.passes_call (L2N.takes_of rfl rfl rfl rfl) (fun _ _ _ _ h => h) _ _ _ _ _ _ i c) (pa_cons (pv 0) (pa_cons (pv 1) (pa_cons (pe_lst (pa_cons (pv 3) pa_nil)) pa_nil))))))
      (pss_one (ps_if (pt_cmpR op_eq (pv 2) pe_int (nomark _))
      (pss_one (ps_expr (pe_call (ok_drawn T) (hr.mono (by decide)) (by rfl) T.g_drawn T.F_drawn.kp T.b_drawn .nil (fun _ _ _ _ _ _ i c => L2N.passes_call (L2N.takes_of rfl rfl rfl rfl) (fun _ _ _ _ h => h) _ _ _ _ _ _ i c) (pa_cons (pv 0) (pa_cons (pv 1) (pa_cons (pe_lst (pa_cons pe_int pa_nil)) (pa_cons pe_int pa_nil)))))))
      (pss_one (ps_if (pt_cmpR op_eq (pv 2) pe_int (nomark _))
      (pss_one (ps_expr (pe_call (ok_traced T) (hr.mono (by decide)) (by rfl) T.g_traced T.F_traced.kp T.b_traced .nil (fun _ _ _ _ _ _ i c => L2N.passes_call (L2N.takes_of rfl rfl rfl rfl) (fun _ _ _ _ h => h) _ _ _ _ _ _ i c) (pa_cons (pv 0) (pa_cons (pv 1) (pa_cons (pe_lst (pa_cons (pv 3) pa_nil)) pa_nil))))))
      (pss_one (ps_if (pt_cmpR op_eq (pv 2) pe_int (nomark _))
      (pss_one (ps_expr (pe_call (ok_healed T) (hr.mono (by decide)) (by rfl) T.g_healed T.F_healed.kp T.b_healed .nil (fun _ _ _ _ _ _ i c => L2N.passes_call (L2N.takes_of rfl rfl rfl rfl) (fun _ _ _ _ h => h) _ _ _ _ _ _ i c) (pa_cons (pv 0) (pa_cons (pv 1) pa_nil)))))
      (pss_one (ps_if (pt_cmpR op_eq (pv 2) pe_int (nomark _))
      (pss_one (ps_expr (pe_call (ok_healing T) (hr.mono (by decide)) (by rfl) T.g_healing T.F_healing.kp T.b_healing .nil (fun _ _ _ _ _ _ i c => L2N.passes_call (L2N.takes_of rfl rfl rfl rfl) (fun _ _ _ _ h => h) _ _ _ _ _ _ i c) (pa_cons (pv 0) (pa_cons (pv 1) (pa_cons (pe_lst (pa_cons pe_int pa_nil)) pa_nil))))))
      (pss_one (ps_expr (pe_call (ok_turns T) (hr.mono (by decide)) (by rfl) T.g_turns T.F_turns.kp T.b_turns .nil (fun _ _ _ _ _ _ i c => L2N.passes_call (L2N.takes_of rfl rfl rfl rfl) (fun _ _ _ _ h => h) _ _ _ _ _ _ i c) (pa_cons (pv 0) (pa_cons (pv 1) pa_nil))))))))))))))))))), ?_⟩
    cases hr0 : refuse r m with
    | none =>
      obtain ⟨hw0, kQ2⟩ := kQ hr0
      subst hw0
      refine ⟨_, rfl, rfl, _, rfl, iteT' (decide_eq_true rfl) ?_⟩
      exact ⟨_, rfl, _, rfl, a, r, m, rfl, hS, hl, (fun j hj => nomatch (hr0.symm.trans hj)), fun _ p H' L => kQ2 H' L.1⟩
    | some j =>
      have bad : ∀ {P : Prop}, refuse r m = none → P := fun h => nomatch (hr0.symm.trans h)
      have kJ : ∀ C, T.cs[j]? = some C → ∀ H', Same H H' → E (.ref C) none H' := kE j hr0
      have eJ : ∀ {i : Nat}, refuse r m = some i → j = i := fun h => Option.some.inj (hr0.symm.trans h)
      refine ⟨_, rfl, rfl, _, rfl, ite2 (fun _ => ?_) (fun _ => ?_)⟩
      · exact ⟨_, rfl, _, rfl, a, r, m, rfl, hS, hl, fun i hi C hC => kJ C (by rw [eJ hi]; exact hC) H (Same.refl H), fun h => bad h⟩
      refine ⟨_, rfl, rfl, _, rfl, ite2 (fun _ => ?_) (fun _ => ?_)⟩
      · exact ⟨_, rfl, _, rfl, _, rfl, a, r, m, z, rfl, hS, hl, fun i hi C hC => kJ C (by rw [or_some hr0 hi]; exact hC) H (Same.refl H), fun h => (or_none hr0 h).elim⟩
      refine ⟨_, rfl, rfl, _, rfl, ite2 (fun _ => ?_) (fun _ => ?_)⟩
      · refine ⟨_, rfl, _, rfl, _, rfl, small63 (by show 1 ≤ 1000; decide), fun o ho => ?_⟩
        exact ⟨a, r, m, o, [z], rfl, seqT_upd hS ho, hl, SqL.of upd_same, by show 1 ≤ 100000; decide, fun i hi C hC H' s' => kJ C (by rw [or_some hr0 hi]; exact hC) H' ((same_new ho).trans s'), fun h => (or_none hr0 h).elim⟩
      refine ⟨_, rfl, rfl, _, rfl, ite2 (fun _ => ?_) (fun _ => ?_)⟩
      · refine ⟨_, rfl, _, rfl, small63 (by show 1 ≤ 1000; decide), fun o ho => ?_⟩
        exact ⟨a, r, m, o, [1], 3, rfl, seqT_upd hS ho, hl, SqL.of upd_same, by decide, by decide, fun i hi C hC => kJ C (by rw [eJ hi]; exact hC) _ (same_new ho), fun h => bad h⟩
      refine ⟨_, rfl, rfl, _, rfl, ite2 (fun _ => ?_) (fun _ => ?_)⟩
      · refine ⟨_, rfl, _, rfl, _, rfl, small63 (by show 1 ≤ 1000; decide), fun o ho => ?_⟩
        exact ⟨a, r, m, o, [z], rfl, seqT_upd hS ho, hl, SqL.of upd_same, by show 1 ≤ 100000; decide, fun i hi C hC H' s' => kJ C (by rw [or_some hr0 hi]; exact hC) H' ((same_new ho).trans s'), fun h => (or_none hr0 h).elim⟩
      refine ⟨_, rfl, rfl, _, rfl, ite2 (fun _ => ?_) (fun _ => ?_)⟩
      · exact ⟨_, rfl, _, rfl, a, r, m, rfl, hS, hl, fun i hi C hC => kJ C (by rw [eJ hi]; exact hC) H (Same.refl H), fun h => bad h⟩
      refine ⟨_, rfl, rfl, _, rfl, ite2 (fun _ => ?_) (fun _ => ?_)⟩
      · refine ⟨_, rfl, _, rfl, small63 (by show 1 ≤ 1000; decide), fun o ho => ?_⟩
        exact ⟨a, r, m, o, [1], rfl, seqT_upd hS ho, hl, SqL.of upd_same, fun i hi C hC => kJ C (by rw [or_some hr0 hi]; exact hC) _ (same_new ho), fun h => (or_none hr0 h).elim⟩
      · exact ⟨_, rfl, _, rfl, a, r, m, rfl, hS, hl, fun i hi C hC H' s' => kJ C (by rw [or_some hr0 hi]; exact hC) H' s', fun h => (or_none hr0 h).elim⟩

/-! ### _law_only -/
def kinds (j : Nat) : List Bool := [decide (j = 0), decide (j = 1), decide (j = 2), decide (j = 3), decide (j = 4), decide (j = 5)]
theorem kinds_one {j : Nat} (h : j < 6) : (kinds j).count true = 1 := by
  rcases j with _ | _ | _ | _ | _ | _ | j
  · rfl
  · rfl
  · rfl
  · rfl
  · rfl
  · rfl
  · omega
theorem kinds_at {i j : Nat} (h : i < 6) : (kinds j)[i]? = some (decide (j = i)) := by
  rcases i with _ | _ | _ | _ | _ | _ | i
  · rfl
  · rfl
  · rfl
  · rfl
  · rfl
  · rfl
  · omega
def sp__law_only (cs : List Addr) : SpE := fun a cls d vs H Q _ => ∃ (j i : Nat) (C : Addr), vs = [.ref a, .int (i : Int)] ∧ cls = .ref C ∧ d = none ∧ cs[j]? = some C ∧ i < 6 ∧ ∀ H', Same H H' → Q (.bl (decide (j = i))) H'
theorem Top.vl (T : Top K mg) {j : Nat} {C : Addr} (h : T.cs[j]? = some C) : j < 6 ∧ PySem.W.kitOne K (.ref C) (.type "ValueError") = some true := by
  rcases j with _ | _ | _ | _ | _ | _ | j
  · have e := Option.some.inj h
    subst e
    exact ⟨by omega, T.ex_NoNumbers.val⟩
  · have e := Option.some.inj h
    subst e
    exact ⟨by omega, T.ex_NoRing.val⟩
  · have e := Option.some.inj h
    subst e
    exact ⟨by omega, T.ex_NoMachine.val⟩
  · have e := Option.some.inj h
    subst e
    exact ⟨by omega, T.ex_NotNow.val⟩
  · have e := Option.some.inj h
    subst e
    exact ⟨by omega, T.ex_NotHealed.val⟩
  · have e := Option.some.inj h
    subst e
    exact ⟨by omega, T.ex_TooGreat.val⟩
  · cases h
theorem ok__law_only (T : Top K mg) : FnE P w K mg base CX0 1 T.f__law_only T.d__law_only ["_law_e", "_law_at"] (sp__law_only T.cs) := by
  refine okE T.F__law_only sc__law_only (fun a cls d vs H Q E h => ?_) (fun cdv A outer s H vs Q E p cls d hz hf hot hr h => ?_)
  · obtain ⟨j, i, C, rfl, rfl, rfl, hC, hi, q⟩ := h
    rfl
  · obtain ⟨j, i, C, rfl, rfl, rfl, hC, hi, q⟩ := h
    refine ⟨_, (pss_cons (ps_set (i := 2) sc__law_only.nd rfl (by first | exact Or.inl rfl | exact Or.inr rfl) (pe_lst (pa_cons (pe_callB (HL.call_isP (a := p.1) (oe := p.2) (T.ec hC) (List.mem_singleton.mpr rfl) (L2N.Zn.zc hz) hf) (by rfl) T.n_isinstance (by decide +kernel) (pa_cons (pv 0) (pa_cons (pe_glob (v := .ref T.c_NoNumbers) rfl T.ex_NoNumbers.gl rfl) pa_nil))) (pa_cons (pe_callB (HL.call_isP (a := p.1) (oe := p.2) (T.ec hC) (List.mem_singleton.mpr rfl) (L2N.Zn.zc hz) hf) (by rfl) T.n_isinstance (by decide +kernel) (pa_cons (pv 0) (pa_cons (pe_glob (v := .ref T.c_NoRing) rfl T.ex_NoRing.gl rfl) pa_nil))) (pa_cons (pe_callB (HL.call_isP (a := p.1) (oe := p.2) (T.ec hC) (List.mem_singleton.mpr rfl) (L2N.Zn.zc hz) hf) (by rfl) T.n_isinstance (by decide +kernel) (pa_cons (pv 0) (pa_cons (pe_glob (v := .ref T.c_NoMachine) rfl T.ex_NoMachine.gl rfl) pa_nil))) (pa_cons (pe_callB (HL.call_isP (a := p.1) (oe := p.2) (T.ec hC) (List.mem_singleton.mpr rfl) (L2N.Zn.zc hz) hf) (by rfl) T.n_isinstance (by decide +kernel) (pa_cons (pv 0) (pa_cons (pe_glob (v := .ref T.c_NotNow) rfl T.ex_NotNow.gl rfl) pa_nil))) pa_nil))))))
      (pss_cons (ps_set (i := 2) sc__law_only.nd rfl (by first | exact Or.inl rfl | exact Or.inr rfl) (pe_op op_cat (pv 2) (pe_lst (pa_cons (pe_callB (HL.call_isP (a := p.1) (oe := p.2) (T.ec hC) (List.mem_singleton.mpr rfl) (L2N.Zn.zc hz) hf) (by rfl) T.n_isinstance (by decide +kernel) (pa_cons (pv 0) (pa_cons (pe_glob (v := .ref T.c_NotHealed) rfl T.ex_NotHealed.gl rfl) pa_nil))) (pa_cons (pe_callB (HL.call_isP (a := p.1) (oe := p.2) (T.ec hC) (List.mem_singleton.mpr rfl) (L2N.Zn.zc hz) hf) (by rfl) T.n_isinstance (by decide +kernel) (pa_cons (pv 0) (pa_cons (pe_glob (v := .ref T.c_TooGreat) rfl T.ex_TooGreat.gl rfl) pa_nil))) pa_nil)))))
      (pss_one (ps_ret (pe_and (pe_cmpR op_eq (pe_bm (r := HL.rCntB K) PySem.F.plainAttrs_list PySem.F.slot_list_count PySem.F.type_list_count HL.mt_countB (pv 2) (pa_cons pe_bl pa_nil)) pe_int (nomark _)) (pe_and (pe_ix (r := rIxL K) ix_list (pv 2) (pv 1) (fun _ _ => rfl)) (pe_and (pe_callB (HL.call_isP (a := p.1) (oe := p.2) (T.ec hC) (List.mem_singleton.mpr rfl) (L2N.Zn.zc hz) hf) (by rfl) T.n_isinstance (by decide +kernel) (pa_cons (pv 0) (pa_cons (pe_glob (v := .ref T.c_HealError) rfl T.ex_HealError.gl rfl) pa_nil))) (pe_one (pe_callB (HL.call_isP (a := p.1) (oe := p.2) (T.ec hC) (List.mem_singleton.mpr rfl) (L2N.Zn.zc hz) hf) (by rfl) T.n_isinstance (by decide +kernel) (pa_cons (pv 0) (pa_cons (pe_bltn (v := .ty "ValueError") (by rfl) T.n_ValueError (by decide +kernel) rfl) pa_nil))))))))))), ?_⟩
    obtain ⟨hj, hv⟩ := T.vl hC
    refine ⟨_, rfl, .ref T.c_NoNumbers, .ref T.c_NoNumbers, _, rfl, fun _ r => r, T.fam.one hC (j := 0) rfl T.ex_NoNumbers, ?_⟩
    refine ⟨_, rfl, .ref T.c_NoRing, .ref T.c_NoRing, _, rfl, fun _ r => r, T.fam.one hC (j := 1) rfl T.ex_NoRing, ?_⟩
    refine ⟨_, rfl, .ref T.c_NoMachine, .ref T.c_NoMachine, _, rfl, fun _ r => r, T.fam.one hC (j := 2) rfl T.ex_NoMachine, ?_⟩
    refine ⟨_, rfl, .ref T.c_NotNow, .ref T.c_NotNow, _, rfl, fun _ r => r, T.fam.one hC (j := 3) rfl T.ex_NotNow, ?_⟩
    refine ⟨small63 (by show 4 ≤ 1000; decide), fun p1 h1 => ?_⟩
    refine ⟨_, rfl, _, rfl, .ref T.c_NotHealed, .ref T.c_NotHealed, _, rfl, fun _ r => r, T.fam.one hC (j := 4) rfl T.ex_NotHealed, ?_⟩
    refine ⟨_, rfl, .ref T.c_TooGreat, .ref T.c_TooGreat, _, rfl, fun _ r => r, T.fam.one hC (j := 5) rfl T.ex_TooGreat, ?_⟩
    refine ⟨small63 (by show 2 ≤ 1000; decide), fun p2 h2 => ?_⟩
    have n12 : p1 ≠ p2 := ne_of_none upd_same h2
    refine ⟨p1, p2, _, _, rfl, rfl, (upd_ne n12).trans upd_same, upd_same, small63 (by show 4 + 2 ≤ 1000; decide), fun p3 h3 => ?_⟩
    have h3' : ∀ {l : List V}, SqL K (upd (upd (upd H p1 (.lst [V.bl (decide (j = 0)), V.bl (decide (j = 1)), V.bl (decide (j = 2)), V.bl (decide (j = 3))])) p2 (.lst [V.bl (decide (j = 4)), V.bl (decide (j = 5))])) p3 (.lst l)) p3 l := SqL.of upd_same
    refine ⟨_, rfl, .inl ⟨rfl, _, h3'⟩, p3, kinds j, true, rfl, rfl, h3', rfl, true, congrArg V.bl (decide_eq_true (by rw [kinds_one hj]; rfl)), iteT ?_⟩
    refine ⟨_, rfl, _, rfl, p3, (kinds j).map V.bl, i, .bl (decide (j = i)), rfl, rfl, h3', atI_nat (by rw [List.getElem?_map, kinds_at hi]; rfl), _, rfl, ite2 (fun c => ?_) (fun c => ?_)⟩
    · rw [of_decide_eq_true c, decide_eq_true rfl] at q
      refine ⟨_, rfl, .ref T.c_HealError, .ref T.c_HealError, _, rfl, fun _ r => r, T.fam.heal hC T.ex_HealError, true, rfl, iteT ?_⟩
      exact ⟨_, rfl, .ty "ValueError", .type "ValueError", _, rfl, fun _ r => r, hv, q _ (same_upd2 (same_upd2 (same_new h1) h2) h3)⟩
    · rw [Bool.eq_false_iff.mpr c] at q
      exact q _ (same_upd2 (same_upd2 (same_new h1) h2) h3)

/-! ### _law_told -/
theorem refuse_j {r : List Int} {m : Int} {j : Nat} (h : refuse r m = some j) : j = 0 ∨ j = 1 := by
  unfold refuse at h
  split at h
  · exact Or.inl (Option.some.inj h).symm
  · split at h
    · exact Or.inr (Option.some.inj h).symm
    · cases h
def sp__law_told (K : PySem.W.Frag) : Sp := fun vs H Q _ => ∃ (a : Addr) (r : List Int) (m w z : Int), vs = [.ref a, .int m, .int w, .int z] ∧ SqT K H a (r.map V.int) ∧ r.length ≤ 1000 ∧
  (refuse r m = none → w = 0) ∧ ∀ H', Same H H' → Q (.int (due r m)) H'
theorem ok__law_told (T : Top K mg) : FnOk P w K mg base CX0 7 T.f__law_told T.d__law_told ["_law_ring_here", "_law_many_here", "_law_way", "_law_machine"] (sp__law_told K) := by
  refine T.F__law_told.ok sc__law_told (fun vs H Q E h => ?_) (fun cdv A outer s H vs Q E hr h => ?_)
  · obtain ⟨a, r, m, w, z, rfl, hS, hl, hw, q⟩ := h
    rfl
  · obtain ⟨a, r, m, w, z, rfl, hS, hl, hw, q⟩ := h
    refine ⟨_, (pss_cons (L2N.ps_try_as (i := 4) rfl rfl sc__law_told.nd rfl rfl ⟨rfl, by decide, Or.inl T.ex_HealError.gl⟩ takes0N
      (fun W pn xe tk po => (pss_one (ps_expr (pe_callS (ok__law_asked T) (hr.mono (by decide)) (by rfl) T.g__law_asked T.F__law_asked.kp T.b__law_asked (fun σ => L2N.passAt tk σ) (pa_cons (pv 0) (pa_cons (pv 1) (pa_cons (pv 2) (pa_cons (pv 3) pa_nil))))))))
      (fun a oe cls d pn hz hf => (pss_cons (L2H.ps_forH PassesOwn.never ⟨(a, oe), HL.hot_suite hz hf, List.mem_cons_self⟩ (L2H.pi_range1H (by rfl) T.n_range (pa_cons pe_int pa_nil)) (pg_name (i := 5) sc__law_told.nd rfl (by first | exact Or.inl rfl | exact Or.inr rfl))
      (pss_one (ps_if (pt_val (HL.pe_callE (E := fun _ => E0) (ok__law_only T) ((HL.roomS hr).mono (by decide)) hz hf (HL.hot_suite hz hf) List.mem_cons_self (by rfl) T.g__law_only T.F__law_only.kp T.b__law_only (fun _ => HL.passE0) (pa_cons (pv 4) (pa_cons (pv 5) pa_nil))))
      (pss_one (ps_ret (pv 5)))
      pss_nil)))
      (pss_one (ps_ret (pe_un un_neg pe_int))))))
      (pss_one (ps_ret pe_int))), ?_⟩
    refine ⟨_, rfl, _, rfl, _, rfl, _, rfl, a, r, m, w, z, rfl, hS, hl, fun j hj C hC H1 s1 => ⟨true, T.fam.caught hC T.ex_HealError, fun _ a0 ha => ?_, fun y => Bool.noConfusion y⟩, fun hn => ⟨hw hn, fun H1 s1 => ?_⟩⟩
    · have hj2 := refuse_j hj
      have ed : due r m = (j : Int) := by
        unfold due
        rw [hj]
      rw [ed] at q
      refine ⟨2, rfl, by decide, by decide, for_range (lo := 0) (n := 2) (fun i σ H' => (∃ v, σ = [some (.ref a), some (.int m), some (.int w), some (.int z), some (.ref a0), v]) ∧ Same H H' ∧ i ≤ j) ⟨⟨_, rfl⟩, s1, Nat.zero_le _⟩ ?_ ?_⟩
      · rintro i σ H' hi ⟨⟨v, rfl⟩, s1, hij⟩
        refine ⟨_, rfl, _, rfl, j, i, C, congrArg (fun t => [V.ref a0, V.int t]) (by omega), rfl, rfl, hC, by omega, fun H2 s2 => ⟨_, rfl, ite2 (fun c => ?_) (fun c => ?_)⟩⟩
        · have ej := of_decide_eq_true c
          have ez : (0 : Int) + (i : Int) = (j : Int) := by omega
          refine ⟨_, rfl, ?_⟩
          rw [ez]
          exact q H2 (s1.trans s2)
        · have nj : ¬ j = i := fun y => c (decide_eq_true y)
          exact ⟨⟨_, rfl⟩, s1.trans s2, by omega⟩
      · rintro σ H' ⟨⟨v, rfl⟩, s1, hij⟩
        omega
    · have ed : due r m = 7 := by
        unfold due
        rw [hn]
      rw [ed] at q
      exact q H1 s1

/-! ### _law_alike -/
def sp__law_alike (K : PySem.W.Frag) (n : Nat) : Sp := fun vs H Q _ => ∃ (x y : V), vs = [x, y] ∧ Alike K H n x y ∧ ∀ H', Same H H' → Q (.bl true) H'
theorem ok__law_alike0 (T : Top K mg) : FnOk P w K mg base CX0 1 T.f__law_alike T.d__law_alike ["_law_told_here", "_law_due_here"] (sp__law_alike K 0) := by
  refine T.F__law_alike.ok sc__law_alike (fun vs H Q E h => ?_) (fun cdv A outer s H vs Q E hr h => ?_)
  · obtain ⟨x, y, rfl, _⟩ := h
    rfl
  · obtain ⟨x, y, rfl, ⟨z, rfl, rfl⟩, q⟩ := h
    refine ⟨_, (pss_cons (ps_if (pt_val (pe_callB (r := rIsi K) call_isi (by rfl) T.n_isinstance (by decide +kernel) (pa_cons (pv 1) (pa_cons (pe_bltn (v := .ty "tuple") (by rfl) T.n_tuple (by decide +kernel) rfl) pa_nil))))
      pss_never
      pss_nil)
      (pss_one (ps_ret (pe_and (pe_cmpR op_eq (pe_callB (r := rIsi K) call_isi (by rfl) T.n_isinstance (by decide +kernel) (pa_cons (pv 0) (pa_cons (pe_bltn (v := .ty "bool") (by rfl) T.n_bool (by decide +kernel) rfl) pa_nil))) (pe_callB (r := rIsi K) call_isi (by rfl) T.n_isinstance (by decide +kernel) (pa_cons (pv 1) (pa_cons (pe_bltn (v := .ty "bool") (by rfl) T.n_bool (by decide +kernel) rfl) pa_nil))) (nomark _)) (pe_one (pe_cmpR (r := rEqD K) (op_eqD hr.units) (pv 0) (pv 1) (nomark _))))))), ?_⟩
    refine ⟨_, rfl, .int z, .ty "tuple", .type "int", .type "tuple", false, rfl, .ty "tuple", .base (.int z), kit_ty (by decide +kernel), _, rfl, iteF ?_⟩
    refine ⟨_, rfl, .int z, .ty "bool", .type "int", .type "bool", false, rfl, .ty "bool", .base (.int z), kit_ty (by decide +kernel), ?_⟩
    refine ⟨_, rfl, .int z, .ty "bool", .type "int", .type "bool", false, rfl, .ty "bool", .base (.int z), kit_ty (by decide +kernel), rfl, true, rfl, iteT ?_⟩
    refine ⟨_, rfl, _, rfl, .int z, .int z, .int z, .int z, rfl, rfl, ?_⟩
    have e : PyData.eqv (.int z) (.int z) = true := beq_self_eq_true z
    rw [e]
    exact q H (Same.refl H)
theorem ok__law_alikeS (T : Top K mg) {n : Nat} (G : FnOk P w K mg base CX0 (n + 1) T.f__law_alike T.d__law_alike ["_law_told_here", "_law_due_here"] (sp__law_alike K n)) : FnOk P w K mg base CX0 (n + 2) T.f__law_alike T.d__law_alike ["_law_told_here", "_law_due_here"] (sp__law_alike K (n + 1)) := by
  refine T.F__law_alike.ok sc__law_alike (fun vs H Q E h => ?_) (fun cdv A outer s H vs Q E hr h => ?_)
  · obtain ⟨x, y, rfl, _⟩ := h
    rfl
  · obtain ⟨x, y, rfl, hA, q⟩ := h
    have hr1 : Room (n + 1) _ := hr
    rcases hA with ⟨z, rfl, rfl⟩ | ⟨a, b, xs, ys, rfl, rfl, hx, hy, hl, hz, hi⟩
    · refine ⟨_, (pss_cons (ps_if (pt_val (pe_callB (r := rIsi K) call_isi (by rfl) T.n_isinstance (by decide +kernel) (pa_cons (pv 1) (pa_cons (pe_bltn (v := .ty "tuple") (by rfl) T.n_tuple (by decide +kernel) rfl) pa_nil))))
      (pss_cons (ps_if (PW.pt (pw_or (pt_not (pt_val (pe_callB (r := rIsi K) call_isi (by rfl) T.n_isinstance (by decide +kernel) (pa_cons (pv 0) (pa_cons (pe_bltn (v := .ty "tuple") (by rfl) T.n_tuple (by decide +kernel) rfl) pa_nil))))) (pw_or1 (pt_cmpR op_ne (pe_callB (r := HL.rLen K) HL.call_lenK (by rfl) T.n_len (by decide +kernel) (pa_cons (pv 0) pa_nil)) (pe_callB (r := HL.rLen K) HL.call_lenK (by rfl) T.n_len (by decide +kernel) (pa_cons (pv 1) pa_nil)) (nomark _)))))
      (pss_one (ps_ret pe_bl))
      pss_nil)
      (pss_one (ps_ret (pe_cmpR (r := rEqD K) (op_eqD hr.units) (pe_lc (own := [("_law_k", 2)]) (g := gName 2) (by rfl) sc__law_alike.nd (pi_range1 (by rfl) T.n_range (pa_cons (pe_callB (r := HL.rLen K) HL.call_lenK (by rfl) T.n_len (by decide +kernel) (pa_cons (pv 1) pa_nil)) pa_nil)) (blkOk_by (N := ["_law_told_here", "_law_due_here", "_law_k"]) (sc := defScope s__law_alike) (by decide +kernel)) (fun _ _ _ _ _ => pg_name (i := 2) sc__law_alike.nd rfl (Or.inl rfl)) (fun _ _ _ _ _ => pts_one (pt_not (pt_val (pe_call G hr1 (by rfl) T.g__law_alike T.F__law_alike.kp T.b__law_alike .nil pass0 (pa_cons (pe_ix (r := rIxT K) ix_tup (pv 0) (pv 2) (fun _ _ => rfl)) (pa_cons (pe_ix (r := rIxT K) ix_tup (pv 1) (pv 2) (fun _ _ => rfl)) pa_nil)))))) (fun _ _ _ _ _ => (pv 2))) (pe_lst pa_nil) (nomark _)))))
      pss_nil)
      (pss_one (ps_ret (pe_and (pe_cmpR op_eq (pe_callB (r := rIsi K) call_isi (by rfl) T.n_isinstance (by decide +kernel) (pa_cons (pv 0) (pa_cons (pe_bltn (v := .ty "bool") (by rfl) T.n_bool (by decide +kernel) rfl) pa_nil))) (pe_callB (r := rIsi K) call_isi (by rfl) T.n_isinstance (by decide +kernel) (pa_cons (pv 1) (pa_cons (pe_bltn (v := .ty "bool") (by rfl) T.n_bool (by decide +kernel) rfl) pa_nil))) (nomark _)) (pe_one (pe_cmpR (r := rEqD K) (op_eqD hr.units) (pv 0) (pv 1) (nomark _))))))), ?_⟩
      refine ⟨_, rfl, .int z, .ty "tuple", .type "int", .type "tuple", false, rfl, .ty "tuple", .base (.int z), kit_ty (by decide +kernel), _, rfl, iteF ?_⟩
      refine ⟨_, rfl, .int z, .ty "bool", .type "int", .type "bool", false, rfl, .ty "bool", .base (.int z), kit_ty (by decide +kernel), ?_⟩
      refine ⟨_, rfl, .int z, .ty "bool", .type "int", .type "bool", false, rfl, .ty "bool", .base (.int z), kit_ty (by decide +kernel), rfl, true, rfl, iteT ?_⟩
      refine ⟨_, rfl, _, rfl, .int z, .int z, .int z, .int z, rfl, rfl, ?_⟩
      have e : PyData.eqv (.int z) (.int z) = true := beq_self_eq_true z
      rw [e]
      exact q H (Same.refl H)
    · refine ⟨_, (pss_cons (ps_if (pt_val (pe_callB (r := rIsi K) call_isi (by rfl) T.n_isinstance (by decide +kernel) (pa_cons (pv 1) (pa_cons (pe_bltn (v := .ty "tuple") (by rfl) T.n_tuple (by decide +kernel) rfl) pa_nil))))
      (pss_cons (ps_if (PW.pt (pw_or (pt_not (pt_val (pe_callB (r := rIsi K) call_isi (by rfl) T.n_isinstance (by decide +kernel) (pa_cons (pv 0) (pa_cons (pe_bltn (v := .ty "tuple") (by rfl) T.n_tuple (by decide +kernel) rfl) pa_nil))))) (pw_or1 (pt_cmpR op_ne (pe_callB (r := HL.rLen K) HL.call_lenK (by rfl) T.n_len (by decide +kernel) (pa_cons (pv 0) pa_nil)) (pe_callB (r := HL.rLen K) HL.call_lenK (by rfl) T.n_len (by decide +kernel) (pa_cons (pv 1) pa_nil)) (nomark _)))))
      (pss_one (ps_ret pe_bl))
      pss_nil)
      (pss_one (ps_ret (pe_cmpR (r := rEqD K) (op_eqD hr.units) (pe_lc (own := [("_law_k", 2)]) (g := gName 2) (by rfl) sc__law_alike.nd (pi_range1 (by rfl) T.n_range (pa_cons (pe_callB (r := HL.rLen K) HL.call_lenK (by rfl) T.n_len (by decide +kernel) (pa_cons (pv 1) pa_nil)) pa_nil)) (blkOk_by (N := ["_law_told_here", "_law_due_here", "_law_k"]) (sc := defScope s__law_alike) (by decide +kernel)) (fun _ _ _ _ _ => pg_name (i := 2) sc__law_alike.nd rfl (Or.inl rfl)) (fun _ _ _ _ _ => pts_one (pt_not (pt_val (pe_call G hr1 (by rfl) T.g__law_alike T.F__law_alike.kp T.b__law_alike .nil pass0 (pa_cons (pe_ix (r := rIxT K) ix_tup (pv 0) (pv 2) (fun _ _ => rfl)) (pa_cons (pe_ix (r := rIxT K) ix_tup (pv 1) (pv 2) (fun _ _ => rfl)) pa_nil)))))) (fun _ _ _ _ _ => (pv 2))) (pe_lst pa_nil) (nomark _)))))
      pss_nil)
      (pss_one (ps_ret (pe_and (pe_cmpR op_eq (pe_callB (r := rIsi K) call_isi (by rfl) T.n_isinstance (by decide +kernel) (pa_cons (pv 0) (pa_cons (pe_bltn (v := .ty "bool") (by rfl) T.n_bool (by decide +kernel) rfl) pa_nil))) (pe_callB (r := rIsi K) call_isi (by rfl) T.n_isinstance (by decide +kernel) (pa_cons (pv 1) (pa_cons (pe_bltn (v := .ty "bool") (by rfl) T.n_bool (by decide +kernel) rfl) pa_nil))) (nomark _)) (pe_one (pe_cmpR (r := rEqD K) (op_eqD hr.units) (pv 0) (pv 1) (nomark _))))))), ?_⟩
      refine ⟨_, rfl, .ref b, .ty "tuple", .type "tuple", .type "tuple", true, rfl, .ty "tuple", tyx_tup hy, kit_ty (by decide +kernel), _, rfl, iteT ?_⟩
      refine ⟨_, rfl, .ref a, .ty "tuple", .type "tuple", .type "tuple", true, rfl, .ty "tuple", tyx_tup hx, kit_ty (by decide +kernel), _, rfl, ?_⟩
      refine iteF ?_
      refine ⟨_, rfl, a, xs, rfl, .inr hx, _, rfl, b, ys, rfl, .inr hy, rfl, _, rfl, ?_⟩
      refine iteNS (congrArg V.int (by rw [hl])) ?_
      refine ⟨_, rfl, b, ys, rfl, .inr hy, ys.length, rfl, by omega, by omega, fun D hD => lc_range (lo := 0) (n := ys.length) (fun i H' => ListAt H D [] H') (ListAt.mk0 (Same.refl H) hD) (fun i H' hi2 L => ?_) fun H' L => ?_⟩
      · have hi1 : i < xs.length := by omega
        have gx := List.getElem?_eq_getElem hi1
        have gy := List.getElem?_eq_getElem hi2
        refine ⟨rfl, _, rfl, _, rfl, a, xs, 0 + (i : Int), _, rfl, rfl, seqT_same L.1 hx, at_of (by omega) gx, _, rfl, _, rfl, b, ys, 0 + (i : Int), _, rfl, rfl, seqT_same L.1 hy, at_of (by omega) gy, ?_⟩
        refine ⟨_, _, rfl, (hi i _ _ gx gy).on L.1, fun H2 s2 => ⟨true, rfl, iteF (L.on s2)⟩⟩
      · refine ⟨Nat.zero_le _, fun p hp => ?_⟩
        refine ⟨.list [], .list [], .lst (SqL.of ((same_new hp) _ _ L.2.2)) .nil, .lst (SqL.of upd_same) .nil, rfl, rfl, ?_⟩
        exact q _ (same_upd2 L.1 hp)

/-! ### _law_listed -/
def sp__law_listed (K : PySem.W.Frag) (n : Nat) : Sp := fun vs H Q _ => ∃ (a b : Addr) (xs ys : List V), vs = [.ref a, .ref b] ∧ SqL K H a xs ∧ SqL K H b ys ∧ xs.length = ys.length ∧ xs.length ≤ 1000 ∧ (∀ (i : Nat) (u v : V), xs[i]? = some u → ys[i]? = some v → Alike K H n u v) ∧ ∀ H', Same H H' → Q (.bl true) H'
theorem ok__law_listed (T : Top K mg) : FnOk P w K mg base CX0 3 T.f__law_listed T.d__law_listed ["_law_told_here", "_law_due_here"] (sp__law_listed K 0) := by
  refine T.F__law_listed.ok sc__law_listed (fun vs H Q E h => ?_) (fun cdv A outer s H vs Q E hr h => ?_)
  · obtain ⟨a, b, xs, ys, rfl, hx, hy, hl, hz, hi, q⟩ := h
    rfl
  · obtain ⟨a, b, xs, ys, rfl, hx, hy, hl, hz, hi, q⟩ := h
    refine ⟨_, (pss_one (ps_ret (pe_and (pe_callB (r := rIsi K) call_isi (by rfl) T.n_isinstance (by decide +kernel) (pa_cons (pv 0) (pa_cons (pe_bltn (v := .ty "list") (by rfl) T.n_list (by decide +kernel) rfl) pa_nil))) (pe_one (pe_call (ok__law_alikeS T (ok__law_alike0 T)) (hr.mono (by decide)) (by rfl) T.g__law_alike T.F__law_alike.kp T.b__law_alike .nil pass0 (pa_cons (pe_callTy (r := HL.rTupOf K) HL.call_tupK (by rfl) T.n_tuple (by decide +kernel) (pa_cons (pv 0) pa_nil)) (pa_cons (pe_callTy (r := HL.rTupOf K) HL.call_tupK (by rfl) T.n_tuple (by decide +kernel) (pa_cons (pv 1) pa_nil)) pa_nil))))))), ?_⟩
    refine ⟨_, rfl, .ref a, .ty "list", .type "list", .type "list", true, rfl, .ty "list", tyx_lst hx, kit_ty (by decide +kernel), true, rfl, iteT ?_⟩
    refine ⟨_, rfl, a, xs, rfl, .inl ⟨hx, fun p hp => ?_⟩⟩
    refine ⟨_, rfl, b, ys, rfl, .inl ⟨seqL_upd hy hp, fun p2 hp2 => ?_⟩⟩
    have s2 := same_upd2 (same_new (o := HO.tup xs) hp) (o := HO.tup ys) hp2
    exact ⟨_, _, rfl, Or.inr ⟨p, p2, xs, ys, rfl, rfl, seqT_upd (SqT.of upd_same) hp2, SqT.of upd_same, hl, hz, fun i u v z1 z2 => (hi i u v z1 z2).on s2⟩, fun H' s => q H' (s2.trans s)⟩

/-! ### _law_able -/
/-! the rings' words: HRLay4 -/
def sp__law_able (K : PySem.W.Frag) : Sp := fun vs H Q _ => ∃ (a : Addr) (r : List Int), vs = [.ref a] ∧ SqX K H a (r.map V.int) ∧ r.length ≤ 1000 ∧ ∀ p H', ListAt H p (ableV r) H' → Q (.ref p) H'
theorem ok__law_able (T : Top K mg) : FnOk P w K mg base CX0 1 T.f__law_able T.d__law_able ["_law_ring_here"] (sp__law_able K) := by
  refine T.F__law_able.ok sc__law_able (fun vs H Q E h => ?_) (fun cdv A outer s H vs Q E hr h => ?_)
  · obtain ⟨a, r, rfl, hS, hl, q⟩ := h
    rfl
  · obtain ⟨a, r, rfl, hS, hl, q⟩ := h
    refine ⟨_, (pss_cons (ps_set (i := 1) sc__law_able.nd rfl (by first | exact Or.inl rfl | exact Or.inr rfl) (pe_lst pa_nil))
      (pss_cons (ps_for PassesOwn.never rfl (pi_range1 (by rfl) T.n_range (pa_cons (pe_callB (r := HL.rLen K) HL.call_lenK (by rfl) T.n_len (by decide +kernel) (pa_cons (pv 0) pa_nil)) pa_nil)) (pg_name (i := 2) sc__law_able.nd rfl (by first | exact Or.inl rfl | exact Or.inr rfl))
      (pss_one (ps_if (PW.pt (pw_or (PW.pt (pw_and (pt_cmpR op_eq (pv 2) pe_int (nomark _)) (pw_and1 (pt_cmpR op_eq (pe_ix (r := HL.rIxX K) HL.ix_any (pv 0) pe_int (fun _ _ => rfl)) (pe_ix (r := HL.rIxX K) HL.ix_any (pv 0) (pe_un un_neg pe_int) (fun _ _ => rfl)) (nomark _))))) (pw_or1 (PW.pt (pw_and (pt_cmpR op_gt (pv 2) pe_int (nomark _)) (pw_and1 (pt_cmpR op_ne (pe_ix (r := HL.rIxX K) HL.ix_any (pv 0) (pv 2) (fun _ _ => rfl)) (pe_ix (r := HL.rIxX K) HL.ix_any (pv 0) (pe_op op_sub (pv 2) pe_int) (fun _ _ => rfl)) (nomark _))))))))
      (pss_one (ps_expr (pe_bm PySem.F.plainAttrs_list PySem.F.slot_list_append PySem.F.type_list_append mt_append (pv 1) (pa_cons (pv 2) pa_nil))))
      pss_nil)))
      (pss_one (ps_ret (pv 1))))), ?_⟩
    refine ⟨Nat.zero_le _, fun l hn => ?_⟩
    refine ⟨_, rfl, a, _, rfl, seqX_same (same_new hn) hS, (r.length : Int), by rw [List.length_map], by omega, by omega, for_range (lo := 0) (n := r.length) (fun i σ H' => (∃ v, σ = [some (.ref a), some (.ref l), v]) ∧ ListAt H l (ableTo r i) H') ⟨⟨_, rfl⟩, ListAt.mk0 (Same.refl H) hn⟩ ?_ ?_⟩
    · rintro i σ H' hi ⟨⟨v, rfl⟩, L⟩
      have hX := seqX_same L.1 hS
      have e0 : (0 : Int) + (i : Int) = (i : Int) := by omega
      rw [e0]
      have app : may r i = true → ∀ {c : Bool} {F : Prop}, c = true → (if c = true then F else False) = F := fun _ => by
        intro c F h
        rw [h]
        simp
      by_cases k0 : i = 0
      · subst k0
        refine ⟨_, rfl, rfl, _, rfl, iteT' (decide_eq_true rfl) ?_⟩
        refine ⟨_, rfl, a, _, 0, _, rfl, rfl, hX, at_int (k := 0) rfl hi, _, rfl, 1, rfl, a, _, -1, _, rfl, rfl, hX, at_end hi, rfl, _, rfl, ite2 (fun c => ?_) (fun c => ?_)⟩
        · have my : may r 0 = true := may_zero.mpr (V.int.inj (of_decide_eq_true c))
          refine iteT ?_
          refine ⟨_, rfl, .inl ⟨rfl, _, SqL.of L.2.2⟩, _, rfl, l, _, _, rfl, rfl, L.2.2, ?_, ⟨_, rfl⟩, ?_⟩
          · exact small1000 (Nat.le_trans (ableTo_len r 0) (by omega))
          · rw [ableTo_yes my]
            exact L.put _
        · have my : may r 0 = false := Bool.eq_false_iff.mpr fun z => c (decide_eq_true (congrArg V.int (may_zero.mp z)))
          refine ⟨_, rfl, _, _, rfl, rfl, _, rfl, ⟨_, rfl⟩, ?_⟩
          rw [ableTo_no my]
          exact L
      · refine ⟨_, rfl, rfl, _, rfl, iteF' (decide_eq_false fun z => k0 (by have := V.int.inj z; omega)) ?_⟩
        refine ⟨_, rfl, _, _, rfl, rfl, _, rfl, iteT' (decide_eq_true (by omega)) ?_⟩
        refine ⟨_, rfl, _, rfl, a, _, i, _, rfl, rfl, hX, at_int rfl hi, _, rfl, _, rfl, _, _, rfl, rfl, a, _, (i : Int) - 1, _, rfl, rfl, hX, at_int (k := i - 1) (by omega) (by omega), rfl, _, rfl, ite2 (fun c => ?_) (fun c => ?_)⟩
        · have c' : ¬ r.getD i 0 = r.getD (i - 1) 0 := by
            intro z
            rw [z] at c
            simp at c
          have my : may r i = true := (may_pos k0).mpr c'
          refine ⟨_, rfl, .inl ⟨rfl, _, SqL.of L.2.2⟩, _, rfl, l, _, _, rfl, rfl, L.2.2, ?_, ⟨_, rfl⟩, ?_⟩
          · exact small1000 (Nat.le_trans (ableTo_len r i) (by omega))
          · rw [ableTo_yes my]
            exact L.put _
        · have c' : r.getD i 0 = r.getD (i - 1) 0 := Decidable.byContradiction fun z => c (by
            have : decide (V.int (r.getD i 0) = V.int (r.getD (i - 1) 0)) = false := decide_eq_false fun y => z (V.int.inj y)
            rw [this]
            rfl)
          have my : may r i = false := Bool.eq_false_iff.mpr fun z => (may_pos k0).mp z c'
          refine ⟨⟨_, rfl⟩, ?_⟩
          rw [ableTo_no my]
          exact L
    · rintro σ H' ⟨⟨v, rfl⟩, L⟩
      exact ⟨_, rfl, q l H' L⟩

/-! ### law -/
def sp_law (K : PySem.W.Frag) : Sp := fun vs H Q _ => ∃ (a : Addr) (ns : List Int), vs = [.ref a] ∧ SqL K H a (ns.map V.int) ∧ ns.length ≤ 63 ∧ ∀ H', Q (.bl true) H'
theorem law_end {K : PySem.W.Frag} {H : Hp} {a : Addr} {ns : List Int} (hl : ns.length ≤ 63) (hS : SqL K H a (ns.map V.int)) : sp_law K [.ref a] H (fun v _ => v = .bl true) fun _ _ _ => False := ⟨a, ns, rfl, hS, hl, fun _ => rfl⟩
theorem ok_law (T : Top K mg) : FnOk P w K mg base CX0 8 T.f_law T.d_law ["_law_script"] (sp_law K) := by
  refine T.F_law.ok sc_law (fun vs H Q E h => ?_) (fun cdv A outer s H vs Q E hr h => ?_)
  · obtain ⟨a, ns, rfl, hS, hl, q⟩ := h
    rfl
  · obtain ⟨a, ns, rfl, hS, hl, q⟩ := h
    refine ⟨_, (pss_cons (ps_set (i := 1) sc_law.nd rfl (by first | exact Or.inl rfl | exact Or.inr rfl) (pe_call (ok__law_size T) (hr.mono (by decide)) (by rfl) T.g__law_size T.F__law_size.kp T.b__law_size .nil pass0 (pa_cons (pv 0) pa_nil)))
      (pss_cons (ps_set (i := 2) sc_law.nd rfl (by first | exact Or.inl rfl | exact Or.inr rfl) (pe_call (ok__law_many T) (hr.mono (by decide)) (by rfl) T.g__law_many T.F__law_many.kp T.b__law_many .nil pass0 (pa_cons (pv 0) (pa_cons (pv 1) pa_nil))))
      (pss_cons (ps_set (i := 3) sc_law.nd rfl (by first | exact Or.inl rfl | exact Or.inr rfl) (pe_call (ok__law_ring T) (hr.mono (by decide)) (by rfl) T.g__law_ring T.F__law_ring.kp T.b__law_ring .nil pass0 (pa_cons (pv 0) (pa_cons (pv 1) (pa_cons (pv 2) pa_nil)))))
      (C8.pss_cut (ps_if (pt_cmpR op_eq (pe_op op_mod (pe_call (ok__law_cell_at T) (hr.mono (by decide)) (by rfl) T.g__law_cell_at T.F__law_cell_at.kp T.b__law_cell_at .nil pass0 (pa_cons (pv 0) (pa_cons pe_int pa_nil))) pe_int) pe_int (nomark _))
      (pss_one (ps_asg (pe_call (ok__law_wrong T) (hr.mono (by decide)) (by rfl) T.g__law_wrong T.F__law_wrong.kp T.b__law_wrong .nil pass0 (pa_cons (pv 3) (pa_cons (pv 2) (pa_cons (pe_op op_fdiv (pe_call (ok__law_cell_at T) (hr.mono (by decide)) (by rfl) T.g__law_cell_at T.F__law_cell_at.kp T.b__law_cell_at .nil pass0 (pa_cons (pv 0) (pa_cons pe_int pa_nil))) pe_int) pa_nil)))) (pg_tup (by rfl) (pgs_cons (pg_name (i := 3) sc_law.nd rfl (by first | exact Or.inl rfl | exact Or.inr rfl)) (pgs_cons (pg_name (i := 2) sc_law.nd rfl (by first | exact Or.inl rfl | exact Or.inr rfl)) pgs_nil)))))
      pss_nil)
      (pss_cons (ps_set (i := 4) sc_law.nd rfl (by first | exact Or.inl rfl | exact Or.inr rfl) (pe_call (ok__law_due T) (hr.mono (by decide)) (by rfl) T.g__law_due T.F__law_due.kp T.b__law_due .nil pass0 (pa_cons (pv 3) (pa_cons (pv 2) pa_nil))))
      (pss_cons (ps_if (pt_cmpR op_ne (pv 4) pe_int (nomark _))
      (pss_cons (ps_set (i := 5) sc_law.nd rfl (by first | exact Or.inl rfl | exact Or.inr rfl) (pe_ix (r := rIxL K) ix_list (pe_lst (pa_cons pe_int (pa_cons (pe_un un_neg pe_int) (pa_cons pe_int (pa_cons pe_int pa_nil))))) (pe_op op_mod (pe_call (ok__law_cell_at T) (hr.mono (by decide)) (by rfl) T.g__law_cell_at T.F__law_cell_at.kp T.b__law_cell_at .nil pass0 (pa_cons (pv 0) (pa_cons pe_int pa_nil))) pe_int) (fun _ _ => rfl)))
      (pss_one (ps_ret (pe_cmpR (r := rEqD K) (op_eqD hr.units) (pe_lc (own := [("_law_way", 6)]) (g := gName 6) (by rfl) sc_law.nd (pi_range1 (by rfl) T.n_range (pa_cons pe_int pa_nil)) (blkOk_by (N := ["_law_script", "_law_size_here", "_law_many_here", "_law_ring_here", "_law_due_here", "_law_machine", "_law_way"]) (sc := defScope s_law) (by decide +kernel)) (fun _ _ _ _ _ => pg_name (i := 6) sc_law.nd rfl (Or.inl rfl)) (fun _ _ _ _ _ => pts_one (pt_cmpR op_ne (pe_call (ok__law_told T) (hr.mono (by decide)) (by rfl) T.g__law_told T.F__law_told.kp T.b__law_told .nil pass0 (pa_cons (pv 3) (pa_cons (pv 2) (pa_cons (pv 6) (pa_cons (pv 5) pa_nil))))) (pv 4) (nomark _))) (fun _ _ _ _ _ => (pv 6))) (pe_lst pa_nil) (nomark _)))))
      pss_nil)
      (pss_cons (ps_if (pt_cmpR op_ne (pe_call (ok__law_told T) (hr.mono (by decide)) (by rfl) T.g__law_told T.F__law_told.kp T.b__law_told .nil pass0 (pa_cons (pv 3) (pa_cons (pv 2) (pa_cons pe_int (pa_cons pe_int pa_nil))))) pe_int (nomark _))
      (pss_one (ps_ret pe_bl))
      pss_nil)
      (pss_one (ps_ret (pe_and (pe_call (ok__law_listed T) (hr.mono (by decide)) (by rfl) T.g__law_listed T.F__law_listed.kp T.b__law_listed .nil pass0 (pa_cons (pe_call (ok_able T) (hr.mono (by decide)) (by rfl) T.g_able T.F_able.kp T.b_able .nil HL.passN (pa_cons (pv 3) (pa_cons (pv 2) pa_nil))) (pa_cons (pe_call (ok__law_able T) (hr.mono (by decide)) (by rfl) T.g__law_able T.F__law_able.kp T.b__law_able .nil pass0 (pa_cons (pv 3) pa_nil)) pa_nil))) (pe_one (pe_cmpR (r := rNeD K) (op_neD hr.units) (pe_call (ok_able T) (hr.mono (by decide)) (by rfl) T.g_able T.F_able.kp T.b_able .nil HL.passN (pa_cons (pv 3) (pa_cons (pv 2) pa_nil))) (pe_lst pa_nil) (nomark _))))))))))))), ?_⟩
    have sb := size_b ns
    have mb := many_b ns (size ns) sb.1 sb.2
    have g := ring_good ns sb.1 sb.2 mb.1 mb.2
    have gl := g.len
    refine ⟨_, rfl, a, ns, rfl, hS, hl, ?_⟩
    refine ⟨_, rfl, _, rfl, a, ns, size ns, rfl, hS, hl, fun H1 s1 => ?_⟩
    have hS1 := s1.seq hS
    refine ⟨_, rfl, _, rfl, _, rfl, a, ns, size ns, many ns (size ns), rfl, hS1, hl, sb.1, sb.2, mb.1, mb.2, fun p H2 s2 hR => ?_⟩
    have hS2 := s2.seq hS1
    generalize hr0 : ring ns (size ns) (many ns (size ns)) = r at g gl hR
    generalize hm0 : many ns (size ns) = m at g mb hR
    generalize hn0 : size ns = n at g gl sb mb hR
    
    have n12 := g.n12
    have n2 := g.n2
    refine ⟨fun σ H' => ∃ (p : Addr) (r : List Int) (m : Int), σ = [some (.ref a), some (.int n), some (.int m), some (.ref p), none, none, none] ∧ Same H2 H' ∧ SqT K H' p (r.map V.int) ∧ r.length ≤ 1000, ?_, ?_⟩
    · refine ⟨_, rfl, a, ns, 3, rfl, hS2, hl, by decide, _, _, rfl, rfl, (by show (0 : Int) < 2; decide), rfl, _, rfl, ite2 (fun c => ?_) (fun c => ?_)⟩
      · refine ⟨_, rfl, _, rfl, _, rfl, a, ns, 3, rfl, hS2, hl, by decide, _, _, rfl, rfl, ⟨by decide, by decide⟩, p, r, m, cell ns 3 / 2, _, rfl, hR, g, fun p' p2 r' m' H' s' hp hp2 hl' => ?_⟩
        exact ⟨p', _, rfl, hp, rfl, _, _, rfl, _, _, rfl, rfl, p2, r', m', rfl, s', hp2, hl'⟩
      · exact ⟨p, r, m, rfl, Same.refl H2, hR, by omega⟩
    clear hR gl g hr0 hm0 mb
    rintro σ H3 ⟨p, r, m, rfl, s3, hR, hRl⟩
    have hS3 := s3.seq hS2
    refine ⟨_, rfl, _, rfl, p, r, m, rfl, hR, hRl, ?_⟩
    cases hr0 : refuse r m with
    | some j =>
      have hj2 := refuse_j hr0
      have ed : due r m = (j : Int) := by
        unfold due
        rw [hr0]
      rw [ed]
      have n7 : ¬ V.int (j : Int) = V.int 7 := fun y => by
        have := V.int.inj y
        omega
      refine ⟨_, rfl, rfl, _, rfl, ?_⟩
      rw [decide_eq_false n7]
      refine iteT ?_
      have e0 := Int.emod_nonneg (cell ns 17) (b := 4) (by decide)
      have e1 := Int.emod_lt_of_pos (cell ns 17) (b := 4) (by decide)
      refine ⟨1, rfl, small63 (by show 4 ≤ 1000; decide), fun u hu => ?_⟩
      refine ⟨_, rfl, a, ns, 17, rfl, seqL_upd hS3 hu, hl, by decide, _, _, rfl, rfl, (by show (0 : Int) < 4; decide), u, ([0, -1, 99, 1] : List Int).map V.int, cell ns 17 % 4, _, rfl, rfl, SqL.of upd_same, at_int (k := (cell ns 17 % 4).toNat) (by omega) (by show (cell ns 17 % 4).toNat < 4; omega), ?_⟩
      generalize ([0, -1, 99, 1] : List Int).getD (cell ns 17 % 4).toNat 0 = z
      have hR4 := seqT_upd (o := HO.lst (([0, -1, 99, 1] : List Int).map V.int)) hR hu
      refine ⟨8, rfl, by decide, by decide, fun D hD => lc_range (lo := 0) (n := 8) (fun i H' => ListAt (upd H3 u (.lst (([0, -1, 99, 1] : List Int).map V.int))) D [] H') (ListAt.mk0 (Same.refl _) hD) (fun i H' hi L => ?_) fun H5 L5 => ?_⟩
      · refine ⟨rfl, _, rfl, _, rfl, _, rfl, _, rfl, p, r, m, 0 + (i : Int), z, rfl, seqT_same L.1 hR4, hRl, (fun h => nomatch (hr0.symm.trans h)), fun H6 s6 => ⟨_, rfl, rfl, _, rfl, ?_⟩⟩
        rw [ed]
        exact iteNS rfl (L.on s6)
      refine ⟨Nat.zero_le _, fun w hw => ?_⟩
      refine ⟨_, _, dp_lst (xs := []) (SqL.of ((same_new hw) _ _ L5.2.2)), dp_lst (xs := []) (SqL.of upd_same), shaped_lst _, shaped_lst _, ?_⟩
      exact q _
    | none =>
      have g := refuse_none hr0
      have ed : due r m = 7 := by
        unfold due
        rw [hr0]
      rw [ed]
      refine ⟨_, rfl, rfl, _, rfl, iteNS rfl ?_⟩
      refine ⟨_, rfl, _, rfl, p, r, m, 0, 0, rfl, hR, hRl, fun _ => rfl, fun H4 s4 => ⟨rfl, _, rfl, iteNS (congrArg V.int ed) ?_⟩⟩
      have hR4 := seqT_same s4 hR
      refine ⟨_, rfl, _, rfl, p, r, m, rfl, hR4, hRl, g.no, fun _ t H5 L5 => ?_⟩
      refine ⟨_, rfl, p, r, rfl, .inr (seqT_same L5.1 hR4), hRl, fun d H6 L6 => ?_⟩
      have al := able_le r
      refine ⟨t, d, _, _, rfl, SqL.of (L6.1 _ _ L5.2.2), SqL.of L6.2.2, rfl, by rw [ableV_len]; omega, fun i u v h1 h2 => alike_ord _ i u v h1 h2, fun H7 s7 => ⟨true, rfl, iteT ?_⟩⟩
      have hR7 := seqT_same ((L5.1.trans L6.1).trans s7) hR4
      refine ⟨_, rfl, _, rfl, p, r, m, rfl, hR7, hRl, g.no, fun _ t2 H8 L8 => ⟨Nat.zero_le _, fun w hw => ?_⟩⟩
      have e8 : ableV r = (castL (able r)).map V.int := ordV_ints _
      rw [e8] at L8
      refine ⟨_, _, dp_lst (SqL.of ((same_new hw) _ _ L8.2.2)), dp_lst (xs := []) (SqL.of upd_same), shaped_lst _, shaped_lst _, ?_⟩
      have ne : ¬ castL (able r) = [] := fun e => by
        have n2 := g.n2
        have := able_pos (r := r) (by omega)
        have z := congrArg List.length e
        rw [castL_len] at z
        simp at z
        rw [z] at this
        simp at this
      have eqz : PyData.eqv (.list ((castL (able r)).map PyData.int)) (.list (([] : List Int).map PyData.int)) = decide (castL (able r) = []) := eqv_ints _ _
      rw [eqz, decide_eq_false ne]
      exact q _

end
/-! ### what the top has written -/
theorem all_mk {l : PySem.W.OpenLaw} {w : World} {K : PySem.W.Frag} {h : Heap} {mg : Str → Option Value} {fa : Addr} (X : K.In h) (G : h.Ns mainGlobals mg) (hfa : mg "law" = some (.ref fa))
    {f_check_many : Addr} {od_check_many an_check_many : Option Addr} {sl_check_many : Array (Option Value)} {oc_check_many kV_check_many dc_check_many pm_check_many cd_check_many ct_check_many : Value}
    {f_check_machines : Addr} {od_check_machines an_check_machines : Option Addr} {sl_check_machines : Array (Option Value)} {oc_check_machines kV_check_machines dc_check_machines pm_check_machines cd_check_machines ct_check_machines : Value}
    {f_check_ring : Addr} {od_check_ring an_check_ring : Option Addr} {sl_check_ring : Array (Option Value)} {oc_check_ring kV_check_ring dc_check_ring pm_check_ring cd_check_ring ct_check_ring : Value}
    {f_check_machine : Addr} {od_check_machine an_check_machine : Option Addr} {sl_check_machine : Array (Option Value)} {oc_check_machine kV_check_machine dc_check_machine pm_check_machine cd_check_machine ct_check_machine : Value}
    {f_may_step : Addr} {od_may_step an_may_step : Option Addr} {sl_may_step : Array (Option Value)} {oc_may_step kV_may_step dc_may_step pm_may_step cd_may_step ct_may_step : Value}
    {f_taken : Addr} {od_taken an_taken : Option Addr} {sl_taken : Array (Option Value)} {oc_taken kV_taken dc_taken pm_taken cd_taken ct_taken : Value}
    {f_after : Addr} {od_after an_after : Option Addr} {sl_after : Array (Option Value)} {oc_after kV_after dc_after pm_after cd_after ct_after : Value}
    {f_able : Addr} {od_able an_able : Option Addr} {sl_able : Array (Option Value)} {oc_able kV_able dc_able pm_able cd_able ct_able : Value}
    {f_stepped : Addr} {od_stepped an_stepped : Option Addr} {sl_stepped : Array (Option Value)} {oc_stepped kV_stepped dc_stepped pm_stepped cd_stepped ct_stepped : Value}
    {f_gone : Addr} {od_gone an_gone : Option Addr} {sl_gone : Array (Option Value)} {oc_gone kV_gone dc_gone pm_gone cd_gone ct_gone : Value}
    {f_chosen : Addr} {od_chosen an_chosen : Option Addr} {sl_chosen : Array (Option Value)} {oc_chosen kV_chosen dc_chosen pm_chosen cd_chosen ct_chosen : Value}
    {f_drawn : Addr} {od_drawn an_drawn : Option Addr} {sl_drawn : Array (Option Value)} {oc_drawn kV_drawn dc_drawn pm_drawn cd_drawn ct_drawn : Value}
    {f_traced : Addr} {od_traced an_traced : Option Addr} {sl_traced : Array (Option Value)} {oc_traced kV_traced dc_traced pm_traced cd_traced ct_traced : Value}
    {f_check_enough : Addr} {od_check_enough an_check_enough : Option Addr} {sl_check_enough : Array (Option Value)} {oc_check_enough kV_check_enough dc_check_enough pm_check_enough cd_check_enough ct_check_enough : Value}
    {f_healed : Addr} {od_healed an_healed : Option Addr} {sl_healed : Array (Option Value)} {oc_healed kV_healed dc_healed pm_healed cd_healed ct_healed : Value}
    {f_healing : Addr} {od_healing an_healing : Option Addr} {sl_healing : Array (Option Value)} {oc_healing kV_healing dc_healing pm_healing cd_healing ct_healing : Value}
    {f_turns : Addr} {od_turns an_turns : Option Addr} {sl_turns : Array (Option Value)} {oc_turns kV_turns dc_turns pm_turns cd_turns ct_turns : Value}
    {f__law_cell_at : Addr} {od__law_cell_at an__law_cell_at : Option Addr} {sl__law_cell_at : Array (Option Value)} {oc__law_cell_at kV__law_cell_at dc__law_cell_at pm__law_cell_at cd__law_cell_at ct__law_cell_at : Value}
    {f__law_mixed : Addr} {od__law_mixed an__law_mixed : Option Addr} {sl__law_mixed : Array (Option Value)} {oc__law_mixed kV__law_mixed dc__law_mixed pm__law_mixed cd__law_mixed ct__law_mixed : Value}
    {f__law_size : Addr} {od__law_size an__law_size : Option Addr} {sl__law_size : Array (Option Value)} {oc__law_size kV__law_size dc__law_size pm__law_size cd__law_size ct__law_size : Value}
    {f__law_many : Addr} {od__law_many an__law_many : Option Addr} {sl__law_many : Array (Option Value)} {oc__law_many kV__law_many dc__law_many pm__law_many cd__law_many ct__law_many : Value}
    {f__law_ring : Addr} {od__law_ring an__law_ring : Option Addr} {sl__law_ring : Array (Option Value)} {oc__law_ring kV__law_ring dc__law_ring pm__law_ring cd__law_ring ct__law_ring : Value}
    {f__law_able : Addr} {od__law_able an__law_able : Option Addr} {sl__law_able : Array (Option Value)} {oc__law_able kV__law_able dc__law_able pm__law_able cd__law_able ct__law_able : Value}
    {f__law_listed : Addr} {od__law_listed an__law_listed : Option Addr} {sl__law_listed : Array (Option Value)} {oc__law_listed kV__law_listed dc__law_listed pm__law_listed cd__law_listed ct__law_listed : Value}
    {f__law_alike : Addr} {od__law_alike an__law_alike : Option Addr} {sl__law_alike : Array (Option Value)} {oc__law_alike kV__law_alike dc__law_alike pm__law_alike cd__law_alike ct__law_alike : Value}
    {f__law_only : Addr} {od__law_only an__law_only : Option Addr} {sl__law_only : Array (Option Value)} {oc__law_only kV__law_only dc__law_only pm__law_only cd__law_only ct__law_only : Value}
    {f__law_wrong : Addr} {od__law_wrong an__law_wrong : Option Addr} {sl__law_wrong : Array (Option Value)} {oc__law_wrong kV__law_wrong dc__law_wrong pm__law_wrong cd__law_wrong ct__law_wrong : Value}
    {f__law_due : Addr} {od__law_due an__law_due : Option Addr} {sl__law_due : Array (Option Value)} {oc__law_due kV__law_due dc__law_due pm__law_due cd__law_due ct__law_due : Value}
    {f__law_asked : Addr} {od__law_asked an__law_asked : Option Addr} {sl__law_asked : Array (Option Value)} {oc__law_asked kV__law_asked dc__law_asked pm__law_asked cd__law_asked ct__law_asked : Value}
    {f__law_told : Addr} {od__law_told an__law_told : Option Addr} {sl__law_told : Array (Option Value)} {oc__law_told kV__law_told dc__law_told pm__law_told cd__law_told ct__law_told : Value}
    {f_law : Addr} {od_law an_law : Option Addr} {sl_law : Array (Option Value)} {oc_law kV_law dc_law pm_law cd_law ct_law : Value}
    {t_FEWEST_MACHINES : Tok}
    {t_MOST_MACHINES : Tok}
    {t_FEWEST_NUMBERS : Tok}
    {t_MOST_NUMBERS : Tok}
    {c_HealError : Addr}
    {c_NoNumbers : Addr}
    {c_NoRing : Addr}
    {c_NoMachine : Addr}
    {c_NotNow : Addr}
    {c_NotHealed : Addr}
    {c_TooGreat : Addr}
    (a_check_many : PySem.W.nsIn K mainGlobals "check_many" = some (some (.ref f_check_many)))
    (l_check_many : K.lookup f_check_many = some ⟨oc_check_many, od_check_many, .func (PySem.W.fnOf "check_many" "check_many" (defArgs s_check_many) (defBody s_check_many) (defScope s_check_many) .none kV_check_many dc_check_many pm_check_many an_check_many cd_check_many ct_check_many), sl_check_many⟩)
    (e_check_many : PySem.W.codeIn K cd_check_many "check_many" = true)
    (k_check_many : PySem.W.keepIn K (.ref f_check_many) = true)
    (a_check_machines : PySem.W.nsIn K mainGlobals "check_machines" = some (some (.ref f_check_machines)))
    (l_check_machines : K.lookup f_check_machines = some ⟨oc_check_machines, od_check_machines, .func (PySem.W.fnOf "check_machines" "check_machines" (defArgs s_check_machines) (defBody s_check_machines) (defScope s_check_machines) .none kV_check_machines dc_check_machines pm_check_machines an_check_machines cd_check_machines ct_check_machines), sl_check_machines⟩)
    (e_check_machines : PySem.W.codeIn K cd_check_machines "check_machines" = true)
    (k_check_machines : PySem.W.keepIn K (.ref f_check_machines) = true)
    (a_check_ring : PySem.W.nsIn K mainGlobals "check_ring" = some (some (.ref f_check_ring)))
    (l_check_ring : K.lookup f_check_ring = some ⟨oc_check_ring, od_check_ring, .func (PySem.W.fnOf "check_ring" "check_ring" (defArgs s_check_ring) (defBody s_check_ring) (defScope s_check_ring) .none kV_check_ring dc_check_ring pm_check_ring an_check_ring cd_check_ring ct_check_ring), sl_check_ring⟩)
    (e_check_ring : PySem.W.codeIn K cd_check_ring "check_ring" = true)
    (k_check_ring : PySem.W.keepIn K (.ref f_check_ring) = true)
    (a_check_machine : PySem.W.nsIn K mainGlobals "check_machine" = some (some (.ref f_check_machine)))
    (l_check_machine : K.lookup f_check_machine = some ⟨oc_check_machine, od_check_machine, .func (PySem.W.fnOf "check_machine" "check_machine" (defArgs s_check_machine) (defBody s_check_machine) (defScope s_check_machine) .none kV_check_machine dc_check_machine pm_check_machine an_check_machine cd_check_machine ct_check_machine), sl_check_machine⟩)
    (e_check_machine : PySem.W.codeIn K cd_check_machine "check_machine" = true)
    (k_check_machine : PySem.W.keepIn K (.ref f_check_machine) = true)
    (a_may_step : PySem.W.nsIn K mainGlobals "may_step" = some (some (.ref f_may_step)))
    (l_may_step : K.lookup f_may_step = some ⟨oc_may_step, od_may_step, .func (PySem.W.fnOf "may_step" "may_step" (defArgs s_may_step) (defBody s_may_step) (defScope s_may_step) .none kV_may_step dc_may_step pm_may_step an_may_step cd_may_step ct_may_step), sl_may_step⟩)
    (e_may_step : PySem.W.codeIn K cd_may_step "may_step" = true)
    (k_may_step : PySem.W.keepIn K (.ref f_may_step) = true)
    (a_taken : PySem.W.nsIn K mainGlobals "taken" = some (some (.ref f_taken)))
    (l_taken : K.lookup f_taken = some ⟨oc_taken, od_taken, .func (PySem.W.fnOf "taken" "taken" (defArgs s_taken) (defBody s_taken) (defScope s_taken) .none kV_taken dc_taken pm_taken an_taken cd_taken ct_taken), sl_taken⟩)
    (e_taken : PySem.W.codeIn K cd_taken "taken" = true)
    (k_taken : PySem.W.keepIn K (.ref f_taken) = true)
    (a_after : PySem.W.nsIn K mainGlobals "after" = some (some (.ref f_after)))
    (l_after : K.lookup f_after = some ⟨oc_after, od_after, .func (PySem.W.fnOf "after" "after" (defArgs s_after) (defBody s_after) (defScope s_after) .none kV_after dc_after pm_after an_after cd_after ct_after), sl_after⟩)
    (e_after : PySem.W.codeIn K cd_after "after" = true)
    (k_after : PySem.W.keepIn K (.ref f_after) = true)
    (a_able : PySem.W.nsIn K mainGlobals "able" = some (some (.ref f_able)))
    (l_able : K.lookup f_able = some ⟨oc_able, od_able, .func (PySem.W.fnOf "able" "able" (defArgs s_able) (defBody s_able) (defScope s_able) .none kV_able dc_able pm_able an_able cd_able ct_able), sl_able⟩)
    (e_able : PySem.W.codeIn K cd_able "able" = true)
    (k_able : PySem.W.keepIn K (.ref f_able) = true)
    (a_stepped : PySem.W.nsIn K mainGlobals "stepped" = some (some (.ref f_stepped)))
    (l_stepped : K.lookup f_stepped = some ⟨oc_stepped, od_stepped, .func (PySem.W.fnOf "stepped" "stepped" (defArgs s_stepped) (defBody s_stepped) (defScope s_stepped) .none kV_stepped dc_stepped pm_stepped an_stepped cd_stepped ct_stepped), sl_stepped⟩)
    (e_stepped : PySem.W.codeIn K cd_stepped "stepped" = true)
    (k_stepped : PySem.W.keepIn K (.ref f_stepped) = true)
    (a_gone : PySem.W.nsIn K mainGlobals "gone" = some (some (.ref f_gone)))
    (l_gone : K.lookup f_gone = some ⟨oc_gone, od_gone, .func (PySem.W.fnOf "gone" "gone" (defArgs s_gone) (defBody s_gone) (defScope s_gone) .none kV_gone dc_gone pm_gone an_gone cd_gone ct_gone), sl_gone⟩)
    (e_gone : PySem.W.codeIn K cd_gone "gone" = true)
    (k_gone : PySem.W.keepIn K (.ref f_gone) = true)
    (a_chosen : PySem.W.nsIn K mainGlobals "chosen" = some (some (.ref f_chosen)))
    (l_chosen : K.lookup f_chosen = some ⟨oc_chosen, od_chosen, .func (PySem.W.fnOf "chosen" "chosen" (defArgs s_chosen) (defBody s_chosen) (defScope s_chosen) .none kV_chosen dc_chosen pm_chosen an_chosen cd_chosen ct_chosen), sl_chosen⟩)
    (e_chosen : PySem.W.codeIn K cd_chosen "chosen" = true)
    (k_chosen : PySem.W.keepIn K (.ref f_chosen) = true)
    (a_drawn : PySem.W.nsIn K mainGlobals "drawn" = some (some (.ref f_drawn)))
    (l_drawn : K.lookup f_drawn = some ⟨oc_drawn, od_drawn, .func (PySem.W.fnOf "drawn" "drawn" (defArgs s_drawn) (defBody s_drawn) (defScope s_drawn) .none kV_drawn dc_drawn pm_drawn an_drawn cd_drawn ct_drawn), sl_drawn⟩)
    (e_drawn : PySem.W.codeIn K cd_drawn "drawn" = true)
    (k_drawn : PySem.W.keepIn K (.ref f_drawn) = true)
    (a_traced : PySem.W.nsIn K mainGlobals "traced" = some (some (.ref f_traced)))
    (l_traced : K.lookup f_traced = some ⟨oc_traced, od_traced, .func (PySem.W.fnOf "traced" "traced" (defArgs s_traced) (defBody s_traced) (defScope s_traced) .none kV_traced dc_traced pm_traced an_traced cd_traced ct_traced), sl_traced⟩)
    (e_traced : PySem.W.codeIn K cd_traced "traced" = true)
    (k_traced : PySem.W.keepIn K (.ref f_traced) = true)
    (a_check_enough : PySem.W.nsIn K mainGlobals "check_enough" = some (some (.ref f_check_enough)))
    (l_check_enough : K.lookup f_check_enough = some ⟨oc_check_enough, od_check_enough, .func (PySem.W.fnOf "check_enough" "check_enough" (defArgs s_check_enough) (defBody s_check_enough) (defScope s_check_enough) .none kV_check_enough dc_check_enough pm_check_enough an_check_enough cd_check_enough ct_check_enough), sl_check_enough⟩)
    (e_check_enough : PySem.W.codeIn K cd_check_enough "check_enough" = true)
    (k_check_enough : PySem.W.keepIn K (.ref f_check_enough) = true)
    (a_healed : PySem.W.nsIn K mainGlobals "healed" = some (some (.ref f_healed)))
    (l_healed : K.lookup f_healed = some ⟨oc_healed, od_healed, .func (PySem.W.fnOf "healed" "healed" (defArgs s_healed) (defBody s_healed) (defScope s_healed) .none kV_healed dc_healed pm_healed an_healed cd_healed ct_healed), sl_healed⟩)
    (e_healed : PySem.W.codeIn K cd_healed "healed" = true)
    (k_healed : PySem.W.keepIn K (.ref f_healed) = true)
    (a_healing : PySem.W.nsIn K mainGlobals "healing" = some (some (.ref f_healing)))
    (l_healing : K.lookup f_healing = some ⟨oc_healing, od_healing, .func (PySem.W.fnOf "healing" "healing" (defArgs s_healing) (defBody s_healing) (defScope s_healing) .none kV_healing dc_healing pm_healing an_healing cd_healing ct_healing), sl_healing⟩)
    (e_healing : PySem.W.codeIn K cd_healing "healing" = true)
    (k_healing : PySem.W.keepIn K (.ref f_healing) = true)
    (a_turns : PySem.W.nsIn K mainGlobals "turns" = some (some (.ref f_turns)))
    (l_turns : K.lookup f_turns = some ⟨oc_turns, od_turns, .func (PySem.W.fnOf "turns" "turns" (defArgs s_turns) (defBody s_turns) (defScope s_turns) .none kV_turns dc_turns pm_turns an_turns cd_turns ct_turns), sl_turns⟩)
    (e_turns : PySem.W.codeIn K cd_turns "turns" = true)
    (k_turns : PySem.W.keepIn K (.ref f_turns) = true)
    (a__law_cell_at : PySem.W.nsIn K mainGlobals "_law_cell_at" = some (some (.ref f__law_cell_at)))
    (l__law_cell_at : K.lookup f__law_cell_at = some ⟨oc__law_cell_at, od__law_cell_at, .func (PySem.W.fnOf "_law_cell_at" "_law_cell_at" (defArgs s__law_cell_at) (defBody s__law_cell_at) (defScope s__law_cell_at) .none kV__law_cell_at dc__law_cell_at pm__law_cell_at an__law_cell_at cd__law_cell_at ct__law_cell_at), sl__law_cell_at⟩)
    (e__law_cell_at : PySem.W.codeIn K cd__law_cell_at "_law_cell_at" = true)
    (k__law_cell_at : PySem.W.keepIn K (.ref f__law_cell_at) = true)
    (a__law_mixed : PySem.W.nsIn K mainGlobals "_law_mixed" = some (some (.ref f__law_mixed)))
    (l__law_mixed : K.lookup f__law_mixed = some ⟨oc__law_mixed, od__law_mixed, .func (PySem.W.fnOf "_law_mixed" "_law_mixed" (defArgs s__law_mixed) (defBody s__law_mixed) (defScope s__law_mixed) .none kV__law_mixed dc__law_mixed pm__law_mixed an__law_mixed cd__law_mixed ct__law_mixed), sl__law_mixed⟩)
    (e__law_mixed : PySem.W.codeIn K cd__law_mixed "_law_mixed" = true)
    (k__law_mixed : PySem.W.keepIn K (.ref f__law_mixed) = true)
    (a__law_size : PySem.W.nsIn K mainGlobals "_law_size" = some (some (.ref f__law_size)))
    (l__law_size : K.lookup f__law_size = some ⟨oc__law_size, od__law_size, .func (PySem.W.fnOf "_law_size" "_law_size" (defArgs s__law_size) (defBody s__law_size) (defScope s__law_size) .none kV__law_size dc__law_size pm__law_size an__law_size cd__law_size ct__law_size), sl__law_size⟩)
    (e__law_size : PySem.W.codeIn K cd__law_size "_law_size" = true)
    (k__law_size : PySem.W.keepIn K (.ref f__law_size) = true)
    (a__law_many : PySem.W.nsIn K mainGlobals "_law_many" = some (some (.ref f__law_many)))
    (l__law_many : K.lookup f__law_many = some ⟨oc__law_many, od__law_many, .func (PySem.W.fnOf "_law_many" "_law_many" (defArgs s__law_many) (defBody s__law_many) (defScope s__law_many) .none kV__law_many dc__law_many pm__law_many an__law_many cd__law_many ct__law_many), sl__law_many⟩)
    (e__law_many : PySem.W.codeIn K cd__law_many "_law_many" = true)
    (k__law_many : PySem.W.keepIn K (.ref f__law_many) = true)
    (a__law_ring : PySem.W.nsIn K mainGlobals "_law_ring" = some (some (.ref f__law_ring)))
    (l__law_ring : K.lookup f__law_ring = some ⟨oc__law_ring, od__law_ring, .func (PySem.W.fnOf "_law_ring" "_law_ring" (defArgs s__law_ring) (defBody s__law_ring) (defScope s__law_ring) .none kV__law_ring dc__law_ring pm__law_ring an__law_ring cd__law_ring ct__law_ring), sl__law_ring⟩)
    (e__law_ring : PySem.W.codeIn K cd__law_ring "_law_ring" = true)
    (k__law_ring : PySem.W.keepIn K (.ref f__law_ring) = true)
    (a__law_able : PySem.W.nsIn K mainGlobals "_law_able" = some (some (.ref f__law_able)))
    (l__law_able : K.lookup f__law_able = some ⟨oc__law_able, od__law_able, .func (PySem.W.fnOf "_law_able" "_law_able" (defArgs s__law_able) (defBody s__law_able) (defScope s__law_able) .none kV__law_able dc__law_able pm__law_able an__law_able cd__law_able ct__law_able), sl__law_able⟩)
    (e__law_able : PySem.W.codeIn K cd__law_able "_law_able" = true)
    (k__law_able : PySem.W.keepIn K (.ref f__law_able) = true)
    (a__law_listed : PySem.W.nsIn K mainGlobals "_law_listed" = some (some (.ref f__law_listed)))
    (l__law_listed : K.lookup f__law_listed = some ⟨oc__law_listed, od__law_listed, .func (PySem.W.fnOf "_law_listed" "_law_listed" (defArgs s__law_listed) (defBody s__law_listed) (defScope s__law_listed) .none kV__law_listed dc__law_listed pm__law_listed an__law_listed cd__law_listed ct__law_listed), sl__law_listed⟩)
    (e__law_listed : PySem.W.codeIn K cd__law_listed "_law_listed" = true)
    (k__law_listed : PySem.W.keepIn K (.ref f__law_listed) = true)
    (a__law_alike : PySem.W.nsIn K mainGlobals "_law_alike" = some (some (.ref f__law_alike)))
    (l__law_alike : K.lookup f__law_alike = some ⟨oc__law_alike, od__law_alike, .func (PySem.W.fnOf "_law_alike" "_law_alike" (defArgs s__law_alike) (defBody s__law_alike) (defScope s__law_alike) .none kV__law_alike dc__law_alike pm__law_alike an__law_alike cd__law_alike ct__law_alike), sl__law_alike⟩)
    (e__law_alike : PySem.W.codeIn K cd__law_alike "_law_alike" = true)
    (k__law_alike : PySem.W.keepIn K (.ref f__law_alike) = true)
    (a__law_only : PySem.W.nsIn K mainGlobals "_law_only" = some (some (.ref f__law_only)))
    (l__law_only : K.lookup f__law_only = some ⟨oc__law_only, od__law_only, .func (PySem.W.fnOf "_law_only" "_law_only" (defArgs s__law_only) (defBody s__law_only) (defScope s__law_only) .none kV__law_only dc__law_only pm__law_only an__law_only cd__law_only ct__law_only), sl__law_only⟩)
    (e__law_only : PySem.W.codeIn K cd__law_only "_law_only" = true)
    (k__law_only : PySem.W.keepIn K (.ref f__law_only) = true)
    (a__law_wrong : PySem.W.nsIn K mainGlobals "_law_wrong" = some (some (.ref f__law_wrong)))
    (l__law_wrong : K.lookup f__law_wrong = some ⟨oc__law_wrong, od__law_wrong, .func (PySem.W.fnOf "_law_wrong" "_law_wrong" (defArgs s__law_wrong) (defBody s__law_wrong) (defScope s__law_wrong) .none kV__law_wrong dc__law_wrong pm__law_wrong an__law_wrong cd__law_wrong ct__law_wrong), sl__law_wrong⟩)
    (e__law_wrong : PySem.W.codeIn K cd__law_wrong "_law_wrong" = true)
    (k__law_wrong : PySem.W.keepIn K (.ref f__law_wrong) = true)
    (a__law_due : PySem.W.nsIn K mainGlobals "_law_due" = some (some (.ref f__law_due)))
    (l__law_due : K.lookup f__law_due = some ⟨oc__law_due, od__law_due, .func (PySem.W.fnOf "_law_due" "_law_due" (defArgs s__law_due) (defBody s__law_due) (defScope s__law_due) .none kV__law_due dc__law_due pm__law_due an__law_due cd__law_due ct__law_due), sl__law_due⟩)
    (e__law_due : PySem.W.codeIn K cd__law_due "_law_due" = true)
    (k__law_due : PySem.W.keepIn K (.ref f__law_due) = true)
    (a__law_asked : PySem.W.nsIn K mainGlobals "_law_asked" = some (some (.ref f__law_asked)))
    (l__law_asked : K.lookup f__law_asked = some ⟨oc__law_asked, od__law_asked, .func (PySem.W.fnOf "_law_asked" "_law_asked" (defArgs s__law_asked) (defBody s__law_asked) (defScope s__law_asked) .none kV__law_asked dc__law_asked pm__law_asked an__law_asked cd__law_asked ct__law_asked), sl__law_asked⟩)
    (e__law_asked : PySem.W.codeIn K cd__law_asked "_law_asked" = true)
    (k__law_asked : PySem.W.keepIn K (.ref f__law_asked) = true)
    (a__law_told : PySem.W.nsIn K mainGlobals "_law_told" = some (some (.ref f__law_told)))
    (l__law_told : K.lookup f__law_told = some ⟨oc__law_told, od__law_told, .func (PySem.W.fnOf "_law_told" "_law_told" (defArgs s__law_told) (defBody s__law_told) (defScope s__law_told) .none kV__law_told dc__law_told pm__law_told an__law_told cd__law_told ct__law_told), sl__law_told⟩)
    (e__law_told : PySem.W.codeIn K cd__law_told "_law_told" = true)
    (k__law_told : PySem.W.keepIn K (.ref f__law_told) = true)
    (a_law : PySem.W.nsIn K mainGlobals "law" = some (some (.ref f_law)))
    (l_law : K.lookup f_law = some ⟨oc_law, od_law, .func (PySem.W.fnOf "law" "law" (defArgs s_law) (defBody s_law) (defScope s_law) .none kV_law dc_law pm_law an_law cd_law ct_law), sl_law⟩)
    (e_law : PySem.W.codeIn K cd_law "law" = true)
    (k_law : PySem.W.keepIn K (.ref f_law) = true)
    (v_FEWEST_MACHINES : PySem.W.nsIn K mainGlobals "FEWEST_MACHINES" = some (some (.int 2 t_FEWEST_MACHINES)))
    (v_MOST_MACHINES : PySem.W.nsIn K mainGlobals "MOST_MACHINES" = some (some (.int 12 t_MOST_MACHINES)))
    (v_FEWEST_NUMBERS : PySem.W.nsIn K mainGlobals "FEWEST_NUMBERS" = some (some (.int 2 t_FEWEST_NUMBERS)))
    (v_MOST_NUMBERS : PySem.W.nsIn K mainGlobals "MOST_NUMBERS" = some (some (.int 100 t_MOST_NUMBERS)))
    (x_HealError : PySem.W.nsIn K mainGlobals "HealError" = some (some (.ref c_HealError)))
    (xe_HealError : PySem.W.excIn K c_HealError [.type "ValueError", .type "Exception", .type "BaseException", .type "object"] "ValueError.__new__" = true)
    (xk_HealError : PySem.W.keepIn K (.ref c_HealError) = true)
    (xb_HealError : PySem.W.subIn K (.ref c_HealError) (.type "BaseException") = some true)
    (xt_HealError : PySem.W.typeIn K (.ref c_HealError) = some (.type "type"))
    (xi_HealError : PySem.W.isClsIn K c_HealError = true)
    (xv_HealError : PySem.W.subIn K (.ref c_HealError) (.type "ValueError") = some true)
    (xg_HealError : PySem.W.findIn K (.ref c_HealError) "__getattribute__" = some (some (.builtin "BaseException.__getattribute__")))
    (xh_HealError : PySem.W.findIn K (.ref c_HealError) "__getattr__" = some none)
    (xd_HealError : PySem.W.hasDictIn K c_HealError = true)
    (xc_HealError : PySem.W.findIn K (.ref c_HealError) "__class__" = some (some (.builtin "object.__class__")))
    (xm_HealError : PySem.W.mroIn K c_HealError (.type "object") = some true)
    (x_NoNumbers : PySem.W.nsIn K mainGlobals "NoNumbers" = some (some (.ref c_NoNumbers)))
    (xe_NoNumbers : PySem.W.excIn K c_NoNumbers [.type "ValueError", .type "Exception", .type "BaseException", .type "object"] "ValueError.__new__" = true)
    (xk_NoNumbers : PySem.W.keepIn K (.ref c_NoNumbers) = true)
    (xb_NoNumbers : PySem.W.subIn K (.ref c_NoNumbers) (.type "BaseException") = some true)
    (xt_NoNumbers : PySem.W.typeIn K (.ref c_NoNumbers) = some (.type "type"))
    (xi_NoNumbers : PySem.W.isClsIn K c_NoNumbers = true)
    (xv_NoNumbers : PySem.W.subIn K (.ref c_NoNumbers) (.type "ValueError") = some true)
    (xg_NoNumbers : PySem.W.findIn K (.ref c_NoNumbers) "__getattribute__" = some (some (.builtin "BaseException.__getattribute__")))
    (xh_NoNumbers : PySem.W.findIn K (.ref c_NoNumbers) "__getattr__" = some none)
    (xd_NoNumbers : PySem.W.hasDictIn K c_NoNumbers = true)
    (xc_NoNumbers : PySem.W.findIn K (.ref c_NoNumbers) "__class__" = some (some (.builtin "object.__class__")))
    (xm_NoNumbers : PySem.W.mroIn K c_NoNumbers (.type "object") = some true)
    (x_NoRing : PySem.W.nsIn K mainGlobals "NoRing" = some (some (.ref c_NoRing)))
    (xe_NoRing : PySem.W.excIn K c_NoRing [.type "ValueError", .type "Exception", .type "BaseException", .type "object"] "ValueError.__new__" = true)
    (xk_NoRing : PySem.W.keepIn K (.ref c_NoRing) = true)
    (xb_NoRing : PySem.W.subIn K (.ref c_NoRing) (.type "BaseException") = some true)
    (xt_NoRing : PySem.W.typeIn K (.ref c_NoRing) = some (.type "type"))
    (xi_NoRing : PySem.W.isClsIn K c_NoRing = true)
    (xv_NoRing : PySem.W.subIn K (.ref c_NoRing) (.type "ValueError") = some true)
    (xg_NoRing : PySem.W.findIn K (.ref c_NoRing) "__getattribute__" = some (some (.builtin "BaseException.__getattribute__")))
    (xh_NoRing : PySem.W.findIn K (.ref c_NoRing) "__getattr__" = some none)
    (xd_NoRing : PySem.W.hasDictIn K c_NoRing = true)
    (xc_NoRing : PySem.W.findIn K (.ref c_NoRing) "__class__" = some (some (.builtin "object.__class__")))
    (xm_NoRing : PySem.W.mroIn K c_NoRing (.type "object") = some true)
    (x_NoMachine : PySem.W.nsIn K mainGlobals "NoMachine" = some (some (.ref c_NoMachine)))
    (xe_NoMachine : PySem.W.excIn K c_NoMachine [.type "ValueError", .type "Exception", .type "BaseException", .type "object"] "ValueError.__new__" = true)
    (xk_NoMachine : PySem.W.keepIn K (.ref c_NoMachine) = true)
    (xb_NoMachine : PySem.W.subIn K (.ref c_NoMachine) (.type "BaseException") = some true)
    (xt_NoMachine : PySem.W.typeIn K (.ref c_NoMachine) = some (.type "type"))
    (xi_NoMachine : PySem.W.isClsIn K c_NoMachine = true)
    (xv_NoMachine : PySem.W.subIn K (.ref c_NoMachine) (.type "ValueError") = some true)
    (xg_NoMachine : PySem.W.findIn K (.ref c_NoMachine) "__getattribute__" = some (some (.builtin "BaseException.__getattribute__")))
    (xh_NoMachine : PySem.W.findIn K (.ref c_NoMachine) "__getattr__" = some none)
    (xd_NoMachine : PySem.W.hasDictIn K c_NoMachine = true)
    (xc_NoMachine : PySem.W.findIn K (.ref c_NoMachine) "__class__" = some (some (.builtin "object.__class__")))
    (xm_NoMachine : PySem.W.mroIn K c_NoMachine (.type "object") = some true)
    (x_NotNow : PySem.W.nsIn K mainGlobals "NotNow" = some (some (.ref c_NotNow)))
    (xe_NotNow : PySem.W.excIn K c_NotNow [.type "ValueError", .type "Exception", .type "BaseException", .type "object"] "ValueError.__new__" = true)
    (xk_NotNow : PySem.W.keepIn K (.ref c_NotNow) = true)
    (xb_NotNow : PySem.W.subIn K (.ref c_NotNow) (.type "BaseException") = some true)
    (xt_NotNow : PySem.W.typeIn K (.ref c_NotNow) = some (.type "type"))
    (xi_NotNow : PySem.W.isClsIn K c_NotNow = true)
    (xv_NotNow : PySem.W.subIn K (.ref c_NotNow) (.type "ValueError") = some true)
    (xg_NotNow : PySem.W.findIn K (.ref c_NotNow) "__getattribute__" = some (some (.builtin "BaseException.__getattribute__")))
    (xh_NotNow : PySem.W.findIn K (.ref c_NotNow) "__getattr__" = some none)
    (xd_NotNow : PySem.W.hasDictIn K c_NotNow = true)
    (xc_NotNow : PySem.W.findIn K (.ref c_NotNow) "__class__" = some (some (.builtin "object.__class__")))
    (xm_NotNow : PySem.W.mroIn K c_NotNow (.type "object") = some true)
    (x_NotHealed : PySem.W.nsIn K mainGlobals "NotHealed" = some (some (.ref c_NotHealed)))
    (xe_NotHealed : PySem.W.excIn K c_NotHealed [.type "ValueError", .type "Exception", .type "BaseException", .type "object"] "ValueError.__new__" = true)
    (xk_NotHealed : PySem.W.keepIn K (.ref c_NotHealed) = true)
    (xb_NotHealed : PySem.W.subIn K (.ref c_NotHealed) (.type "BaseException") = some true)
    (xt_NotHealed : PySem.W.typeIn K (.ref c_NotHealed) = some (.type "type"))
    (xi_NotHealed : PySem.W.isClsIn K c_NotHealed = true)
    (xv_NotHealed : PySem.W.subIn K (.ref c_NotHealed) (.type "ValueError") = some true)
    (xg_NotHealed : PySem.W.findIn K (.ref c_NotHealed) "__getattribute__" = some (some (.builtin "BaseException.__getattribute__")))
    (xh_NotHealed : PySem.W.findIn K (.ref c_NotHealed) "__getattr__" = some none)
    (xd_NotHealed : PySem.W.hasDictIn K c_NotHealed = true)
    (xc_NotHealed : PySem.W.findIn K (.ref c_NotHealed) "__class__" = some (some (.builtin "object.__class__")))
    (xm_NotHealed : PySem.W.mroIn K c_NotHealed (.type "object") = some true)
    (x_TooGreat : PySem.W.nsIn K mainGlobals "TooGreat" = some (some (.ref c_TooGreat)))
    (xe_TooGreat : PySem.W.excIn K c_TooGreat [.type "ValueError", .type "Exception", .type "BaseException", .type "object"] "ValueError.__new__" = true)
    (xk_TooGreat : PySem.W.keepIn K (.ref c_TooGreat) = true)
    (xb_TooGreat : PySem.W.subIn K (.ref c_TooGreat) (.type "BaseException") = some true)
    (xt_TooGreat : PySem.W.typeIn K (.ref c_TooGreat) = some (.type "type"))
    (xi_TooGreat : PySem.W.isClsIn K c_TooGreat = true)
    (xv_TooGreat : PySem.W.subIn K (.ref c_TooGreat) (.type "ValueError") = some true)
    (xg_TooGreat : PySem.W.findIn K (.ref c_TooGreat) "__getattribute__" = some (some (.builtin "BaseException.__getattribute__")))
    (xh_TooGreat : PySem.W.findIn K (.ref c_TooGreat) "__getattr__" = some none)
    (xd_TooGreat : PySem.W.hasDictIn K c_TooGreat = true)
    (xc_TooGreat : PySem.W.findIn K (.ref c_TooGreat) "__class__" = some (some (.builtin "object.__class__")))
    (xm_TooGreat : PySem.W.mroIn K c_TooGreat (.type "object") = some true)
    (yn : PySem.W.specialIn K (.builtin "object.__class__") "__get__" = some (some (.builtin "getset_descriptor.__get__")))
    (yt : PySem.W.takesIn K (.builtin "object.__class__") = some true)
    (z_NoNumbers_HealError : PySem.W.subIn K (.ref c_NoNumbers) (.ref c_HealError) = some true)
    (z_NoNumbers_NoNumbers : PySem.W.subIn K (.ref c_NoNumbers) (.ref c_NoNumbers) = some true)
    (z_NoNumbers_NoRing : PySem.W.subIn K (.ref c_NoNumbers) (.ref c_NoRing) = some false)
    (z_NoNumbers_NoMachine : PySem.W.subIn K (.ref c_NoNumbers) (.ref c_NoMachine) = some false)
    (z_NoNumbers_NotNow : PySem.W.subIn K (.ref c_NoNumbers) (.ref c_NotNow) = some false)
    (z_NoNumbers_NotHealed : PySem.W.subIn K (.ref c_NoNumbers) (.ref c_NotHealed) = some false)
    (z_NoNumbers_TooGreat : PySem.W.subIn K (.ref c_NoNumbers) (.ref c_TooGreat) = some false)
    (z_NoRing_HealError : PySem.W.subIn K (.ref c_NoRing) (.ref c_HealError) = some true)
    (z_NoRing_NoNumbers : PySem.W.subIn K (.ref c_NoRing) (.ref c_NoNumbers) = some false)
    (z_NoRing_NoRing : PySem.W.subIn K (.ref c_NoRing) (.ref c_NoRing) = some true)
    (z_NoRing_NoMachine : PySem.W.subIn K (.ref c_NoRing) (.ref c_NoMachine) = some false)
    (z_NoRing_NotNow : PySem.W.subIn K (.ref c_NoRing) (.ref c_NotNow) = some false)
    (z_NoRing_NotHealed : PySem.W.subIn K (.ref c_NoRing) (.ref c_NotHealed) = some false)
    (z_NoRing_TooGreat : PySem.W.subIn K (.ref c_NoRing) (.ref c_TooGreat) = some false)
    (z_NoMachine_HealError : PySem.W.subIn K (.ref c_NoMachine) (.ref c_HealError) = some true)
    (z_NoMachine_NoNumbers : PySem.W.subIn K (.ref c_NoMachine) (.ref c_NoNumbers) = some false)
    (z_NoMachine_NoRing : PySem.W.subIn K (.ref c_NoMachine) (.ref c_NoRing) = some false)
    (z_NoMachine_NoMachine : PySem.W.subIn K (.ref c_NoMachine) (.ref c_NoMachine) = some true)
    (z_NoMachine_NotNow : PySem.W.subIn K (.ref c_NoMachine) (.ref c_NotNow) = some false)
    (z_NoMachine_NotHealed : PySem.W.subIn K (.ref c_NoMachine) (.ref c_NotHealed) = some false)
    (z_NoMachine_TooGreat : PySem.W.subIn K (.ref c_NoMachine) (.ref c_TooGreat) = some false)
    (z_NotNow_HealError : PySem.W.subIn K (.ref c_NotNow) (.ref c_HealError) = some true)
    (z_NotNow_NoNumbers : PySem.W.subIn K (.ref c_NotNow) (.ref c_NoNumbers) = some false)
    (z_NotNow_NoRing : PySem.W.subIn K (.ref c_NotNow) (.ref c_NoRing) = some false)
    (z_NotNow_NoMachine : PySem.W.subIn K (.ref c_NotNow) (.ref c_NoMachine) = some false)
    (z_NotNow_NotNow : PySem.W.subIn K (.ref c_NotNow) (.ref c_NotNow) = some true)
    (z_NotNow_NotHealed : PySem.W.subIn K (.ref c_NotNow) (.ref c_NotHealed) = some false)
    (z_NotNow_TooGreat : PySem.W.subIn K (.ref c_NotNow) (.ref c_TooGreat) = some false)
    (z_NotHealed_HealError : PySem.W.subIn K (.ref c_NotHealed) (.ref c_HealError) = some true)
    (z_NotHealed_NoNumbers : PySem.W.subIn K (.ref c_NotHealed) (.ref c_NoNumbers) = some false)
    (z_NotHealed_NoRing : PySem.W.subIn K (.ref c_NotHealed) (.ref c_NoRing) = some false)
    (z_NotHealed_NoMachine : PySem.W.subIn K (.ref c_NotHealed) (.ref c_NoMachine) = some false)
    (z_NotHealed_NotNow : PySem.W.subIn K (.ref c_NotHealed) (.ref c_NotNow) = some false)
    (z_NotHealed_NotHealed : PySem.W.subIn K (.ref c_NotHealed) (.ref c_NotHealed) = some true)
    (z_NotHealed_TooGreat : PySem.W.subIn K (.ref c_NotHealed) (.ref c_TooGreat) = some false)
    (z_TooGreat_HealError : PySem.W.subIn K (.ref c_TooGreat) (.ref c_HealError) = some true)
    (z_TooGreat_NoNumbers : PySem.W.subIn K (.ref c_TooGreat) (.ref c_NoNumbers) = some false)
    (z_TooGreat_NoRing : PySem.W.subIn K (.ref c_TooGreat) (.ref c_NoRing) = some false)
    (z_TooGreat_NoMachine : PySem.W.subIn K (.ref c_TooGreat) (.ref c_NoMachine) = some false)
    (z_TooGreat_NotNow : PySem.W.subIn K (.ref c_TooGreat) (.ref c_NotNow) = some false)
    (z_TooGreat_NotHealed : PySem.W.subIn K (.ref c_TooGreat) (.ref c_NotHealed) = some false)
    (z_TooGreat_TooGreat : PySem.W.subIn K (.ref c_TooGreat) (.ref c_TooGreat) = some true)
    (n_ValueError : PySem.W.nsIn K mainGlobals "ValueError" = some none)
    (n_bool : PySem.W.nsIn K mainGlobals "bool" = some none)
    (n_int : PySem.W.nsIn K mainGlobals "int" = some none)
    (n_isinstance : PySem.W.nsIn K mainGlobals "isinstance" = some none)
    (n_len : PySem.W.nsIn K mainGlobals "len" = some none)
    (n_list : PySem.W.nsIn K mainGlobals "list" = some none)
    (n_max : PySem.W.nsIn K mainGlobals "max" = some none)
    (n_min : PySem.W.nsIn K mainGlobals "min" = some none)
    (n_range : PySem.W.nsIn K mainGlobals "range" = some none)
    (n_tuple : PySem.W.nsIn K mainGlobals "tuple" = some none)
    : ∃ fd : FuncData, (∀ (s : Shared) (v : Value), BindsTo s fd ⟨[v], []⟩ [("_law_script", v)]) ∧ ∀ base : Heap, K.In base → base.Ns mainGlobals mg → FnOk l.prog w K mg base CX0 8 fa fd ["_law_script"] (sp_law K) := by
  have e := hfa.symm.trans (PySem.W.mg_of X G a_law)
  cases e
  have F_check_many := fun_mk (st := s_check_many) l_check_many e_check_many k_check_many
  have F_check_machines := fun_mk (st := s_check_machines) l_check_machines e_check_machines k_check_machines
  have F_check_ring := fun_mk (st := s_check_ring) l_check_ring e_check_ring k_check_ring
  have F_check_machine := fun_mk (st := s_check_machine) l_check_machine e_check_machine k_check_machine
  have F_may_step := fun_mk (st := s_may_step) l_may_step e_may_step k_may_step
  have F_taken := fun_mk (st := s_taken) l_taken e_taken k_taken
  have F_after := fun_mk (st := s_after) l_after e_after k_after
  have F_able := fun_mk (st := s_able) l_able e_able k_able
  have F_stepped := fun_mk (st := s_stepped) l_stepped e_stepped k_stepped
  have F_gone := fun_mk (st := s_gone) l_gone e_gone k_gone
  have F_chosen := fun_mk (st := s_chosen) l_chosen e_chosen k_chosen
  have F_drawn := fun_mk (st := s_drawn) l_drawn e_drawn k_drawn
  have F_traced := fun_mk (st := s_traced) l_traced e_traced k_traced
  have F_check_enough := fun_mk (st := s_check_enough) l_check_enough e_check_enough k_check_enough
  have F_healed := fun_mk (st := s_healed) l_healed e_healed k_healed
  have F_healing := fun_mk (st := s_healing) l_healing e_healing k_healing
  have F_turns := fun_mk (st := s_turns) l_turns e_turns k_turns
  have F__law_cell_at := fun_mk (st := s__law_cell_at) l__law_cell_at e__law_cell_at k__law_cell_at
  have F__law_mixed := fun_mk (st := s__law_mixed) l__law_mixed e__law_mixed k__law_mixed
  have F__law_size := fun_mk (st := s__law_size) l__law_size e__law_size k__law_size
  have F__law_many := fun_mk (st := s__law_many) l__law_many e__law_many k__law_many
  have F__law_ring := fun_mk (st := s__law_ring) l__law_ring e__law_ring k__law_ring
  have F__law_able := fun_mk (st := s__law_able) l__law_able e__law_able k__law_able
  have F__law_listed := fun_mk (st := s__law_listed) l__law_listed e__law_listed k__law_listed
  have F__law_alike := fun_mk (st := s__law_alike) l__law_alike e__law_alike k__law_alike
  have F__law_only := fun_mk (st := s__law_only) l__law_only e__law_only k__law_only
  have F__law_wrong := fun_mk (st := s__law_wrong) l__law_wrong e__law_wrong k__law_wrong
  have F__law_due := fun_mk (st := s__law_due) l__law_due e__law_due k__law_due
  have F__law_asked := fun_mk (st := s__law_asked) l__law_asked e__law_asked k__law_asked
  have F__law_told := fun_mk (st := s__law_told) l__law_told e__law_told k__law_told
  have F_law := fun_mk (st := s_law) l_law e_law k_law
  exact ⟨PySem.W.fnOf "law" "law" (defArgs s_law) (defBody s_law) (defScope s_law) .none kV_law dc_law pm_law an_law cd_law ct_law, fun s v => .of_eq rfl, fun base _ _ => ok_law (P := l.prog) (w := w) (base := base) {
    f_check_many := f_check_many,
    d_check_many := _,
    F_check_many := F_check_many,
    g_check_many := PySem.W.mg_of X G a_check_many,
    b_check_many := F_check_many.binds (ps := ["many"]) fun _ _ _ _ _ _ us hl => match us, hl with | [_], _ => rfl,
    f_check_machines := f_check_machines,
    d_check_machines := _,
    F_check_machines := F_check_machines,
    g_check_machines := PySem.W.mg_of X G a_check_machines,
    b_check_machines := F_check_machines.binds (ps := ["machines"]) fun _ _ _ _ _ _ us hl => match us, hl with | [_], _ => rfl,
    f_check_ring := f_check_ring,
    d_check_ring := _,
    F_check_ring := F_check_ring,
    g_check_ring := PySem.W.mg_of X G a_check_ring,
    b_check_ring := F_check_ring.binds (ps := ["ring", "many"]) fun _ _ _ _ _ _ us hl => match us, hl with | [_, _], _ => rfl,
    f_check_machine := f_check_machine,
    d_check_machine := _,
    F_check_machine := F_check_machine,
    g_check_machine := PySem.W.mg_of X G a_check_machine,
    b_check_machine := F_check_machine.binds (ps := ["machine", "machines"]) fun _ _ _ _ _ _ us hl => match us, hl with | [_, _], _ => rfl,
    f_may_step := f_may_step,
    d_may_step := _,
    F_may_step := F_may_step,
    g_may_step := PySem.W.mg_of X G a_may_step,
    b_may_step := F_may_step.binds (ps := ["ring", "machine"]) fun _ _ _ _ _ _ us hl => match us, hl with | [_, _], _ => rfl,
    f_taken := f_taken,
    d_taken := _,
    F_taken := F_taken,
    g_taken := PySem.W.mg_of X G a_taken,
    b_taken := F_taken.binds (ps := ["ring", "many", "machine"]) fun _ _ _ _ _ _ us hl => match us, hl with | [_, _, _], _ => rfl,
    f_after := f_after,
    d_after := _,
    F_after := F_after,
    g_after := PySem.W.mg_of X G a_after,
    b_after := F_after.binds (ps := ["ring", "many", "machine"]) fun _ _ _ _ _ _ us hl => match us, hl with | [_, _, _], _ => rfl,
    f_able := f_able,
    d_able := _,
    F_able := F_able,
    g_able := PySem.W.mg_of X G a_able,
    b_able := F_able.binds (ps := ["ring", "many"]) fun _ _ _ _ _ _ us hl => match us, hl with | [_, _], _ => rfl,
    f_stepped := f_stepped,
    d_stepped := _,
    F_stepped := F_stepped,
    g_stepped := PySem.W.mg_of X G a_stepped,
    b_stepped := F_stepped.binds (ps := ["ring", "many", "machine"]) fun _ _ _ _ _ _ us hl => match us, hl with | [_, _, _], _ => rfl,
    f_gone := f_gone,
    d_gone := _,
    F_gone := F_gone,
    g_gone := PySem.W.mg_of X G a_gone,
    b_gone := F_gone.binds (ps := ["ring", "many", "order"]) fun _ _ _ _ _ _ us hl => match us, hl with | [_, _, _], _ => rfl,
    f_chosen := f_chosen,
    d_chosen := _,
    F_chosen := F_chosen,
    g_chosen := PySem.W.mg_of X G a_chosen,
    b_chosen := F_chosen.binds (ps := ["machines", "numbers", "step"]) fun _ _ _ _ _ _ us hl => match us, hl with | [_, _, _], _ => rfl,
    f_drawn := f_drawn,
    d_drawn := _,
    F_drawn := F_drawn,
    g_drawn := PySem.W.mg_of X G a_drawn,
    b_drawn := F_drawn.binds (ps := ["ring", "many", "numbers", "steps"]) fun _ _ _ _ _ _ us hl => match us, hl with | [_, _, _, _], _ => rfl,
    f_traced := f_traced,
    d_traced := _,
    F_traced := F_traced,
    g_traced := PySem.W.mg_of X G a_traced,
    b_traced := F_traced.binds (ps := ["ring", "many", "order"]) fun _ _ _ _ _ _ us hl => match us, hl with | [_, _, _], _ => rfl,
    f_check_enough := f_check_enough,
    d_check_enough := _,
    F_check_enough := F_check_enough,
    g_check_enough := PySem.W.mg_of X G a_check_enough,
    b_check_enough := F_check_enough.binds (ps := ["many", "machines"]) fun _ _ _ _ _ _ us hl => match us, hl with | [_, _], _ => rfl,
    f_healed := f_healed,
    d_healed := _,
    F_healed := F_healed,
    g_healed := PySem.W.mg_of X G a_healed,
    b_healed := F_healed.binds (ps := ["ring", "many"]) fun _ _ _ _ _ _ us hl => match us, hl with | [_, _], _ => rfl,
    f_healing := f_healing,
    d_healing := _,
    F_healing := F_healing,
    g_healing := PySem.W.mg_of X G a_healing,
    b_healing := F_healing.binds (ps := ["ring", "many", "numbers"]) fun _ _ _ _ _ _ us hl => match us, hl with | [_, _, _], _ => rfl,
    f_turns := f_turns,
    d_turns := _,
    F_turns := F_turns,
    g_turns := PySem.W.mg_of X G a_turns,
    b_turns := F_turns.binds (ps := ["ring", "many"]) fun _ _ _ _ _ _ us hl => match us, hl with | [_, _], _ => rfl,
    f__law_cell_at := f__law_cell_at,
    d__law_cell_at := _,
    F__law_cell_at := F__law_cell_at,
    g__law_cell_at := PySem.W.mg_of X G a__law_cell_at,
    b__law_cell_at := F__law_cell_at.binds (ps := ["_law_script", "_law_k"]) fun _ _ _ _ _ _ us hl => match us, hl with | [_, _], _ => rfl,
    f__law_mixed := f__law_mixed,
    d__law_mixed := _,
    F__law_mixed := F__law_mixed,
    g__law_mixed := PySem.W.mg_of X G a__law_mixed,
    b__law_mixed := F__law_mixed.binds (ps := ["_law_cell", "_law_k"]) fun _ _ _ _ _ _ us hl => match us, hl with | [_, _], _ => rfl,
    f__law_size := f__law_size,
    d__law_size := _,
    F__law_size := F__law_size,
    g__law_size := PySem.W.mg_of X G a__law_size,
    b__law_size := F__law_size.binds (ps := ["_law_script"]) fun _ _ _ _ _ _ us hl => match us, hl with | [_], _ => rfl,
    f__law_many := f__law_many,
    d__law_many := _,
    F__law_many := F__law_many,
    g__law_many := PySem.W.mg_of X G a__law_many,
    b__law_many := F__law_many.binds (ps := ["_law_script", "_law_size_here"]) fun _ _ _ _ _ _ us hl => match us, hl with | [_, _], _ => rfl,
    f__law_ring := f__law_ring,
    d__law_ring := _,
    F__law_ring := F__law_ring,
    g__law_ring := PySem.W.mg_of X G a__law_ring,
    b__law_ring := F__law_ring.binds (ps := ["_law_script", "_law_size_here", "_law_many_here"]) fun _ _ _ _ _ _ us hl => match us, hl with | [_, _, _], _ => rfl,
    f__law_able := f__law_able,
    d__law_able := _,
    F__law_able := F__law_able,
    g__law_able := PySem.W.mg_of X G a__law_able,
    b__law_able := F__law_able.binds (ps := ["_law_ring_here"]) fun _ _ _ _ _ _ us hl => match us, hl with | [_], _ => rfl,
    f__law_listed := f__law_listed,
    d__law_listed := _,
    F__law_listed := F__law_listed,
    g__law_listed := PySem.W.mg_of X G a__law_listed,
    b__law_listed := F__law_listed.binds (ps := ["_law_told_here", "_law_due_here"]) fun _ _ _ _ _ _ us hl => match us, hl with | [_, _], _ => rfl,
    f__law_alike := f__law_alike,
    d__law_alike := _,
    F__law_alike := F__law_alike,
    g__law_alike := PySem.W.mg_of X G a__law_alike,
    b__law_alike := F__law_alike.binds (ps := ["_law_told_here", "_law_due_here"]) fun _ _ _ _ _ _ us hl => match us, hl with | [_, _], _ => rfl,
    f__law_only := f__law_only,
    d__law_only := _,
    F__law_only := F__law_only,
    g__law_only := PySem.W.mg_of X G a__law_only,
    b__law_only := F__law_only.binds (ps := ["_law_e", "_law_at"]) fun _ _ _ _ _ _ us hl => match us, hl with | [_, _], _ => rfl,
    f__law_wrong := f__law_wrong,
    d__law_wrong := _,
    F__law_wrong := F__law_wrong,
    g__law_wrong := PySem.W.mg_of X G a__law_wrong,
    b__law_wrong := F__law_wrong.binds (ps := ["_law_ring_here", "_law_many_here", "_law_cell"]) fun _ _ _ _ _ _ us hl => match us, hl with | [_, _, _], _ => rfl,
    f__law_due := f__law_due,
    d__law_due := _,
    F__law_due := F__law_due,
    g__law_due := PySem.W.mg_of X G a__law_due,
    b__law_due := F__law_due.binds (ps := ["_law_ring_here", "_law_many_here"]) fun _ _ _ _ _ _ us hl => match us, hl with | [_, _], _ => rfl,
    f__law_asked := f__law_asked,
    d__law_asked := _,
    F__law_asked := F__law_asked,
    g__law_asked := PySem.W.mg_of X G a__law_asked,
    b__law_asked := F__law_asked.binds (ps := ["_law_ring_here", "_law_many_here", "_law_way", "_law_machine"]) fun _ _ _ _ _ _ us hl => match us, hl with | [_, _, _, _], _ => rfl,
    f__law_told := f__law_told,
    d__law_told := _,
    F__law_told := F__law_told,
    g__law_told := PySem.W.mg_of X G a__law_told,
    b__law_told := F__law_told.binds (ps := ["_law_ring_here", "_law_many_here", "_law_way", "_law_machine"]) fun _ _ _ _ _ _ us hl => match us, hl with | [_, _, _, _], _ => rfl,
    f_law := fa,
    d_law := _,
    F_law := F_law,
    t_FEWEST_MACHINES := t_FEWEST_MACHINES,
    g_FEWEST_MACHINES := PySem.W.mg_of X G v_FEWEST_MACHINES,
    t_MOST_MACHINES := t_MOST_MACHINES,
    g_MOST_MACHINES := PySem.W.mg_of X G v_MOST_MACHINES,
    t_FEWEST_NUMBERS := t_FEWEST_NUMBERS,
    g_FEWEST_NUMBERS := PySem.W.mg_of X G v_FEWEST_NUMBERS,
    t_MOST_NUMBERS := t_MOST_NUMBERS,
    g_MOST_NUMBERS := PySem.W.mg_of X G v_MOST_NUMBERS,
    c_HealError := c_HealError,
    ex_HealError := ⟨PySem.W.mg_of X G x_HealError, xe_HealError, xk_HealError, xb_HealError, xt_HealError, xi_HealError, xv_HealError, ⟨xg_HealError, xh_HealError, xb_HealError, xd_HealError, xc_HealError, yn, yt, xm_HealError⟩⟩,
    c_NoNumbers := c_NoNumbers,
    ex_NoNumbers := ⟨PySem.W.mg_of X G x_NoNumbers, xe_NoNumbers, xk_NoNumbers, xb_NoNumbers, xt_NoNumbers, xi_NoNumbers, xv_NoNumbers, ⟨xg_NoNumbers, xh_NoNumbers, xb_NoNumbers, xd_NoNumbers, xc_NoNumbers, yn, yt, xm_NoNumbers⟩⟩,
    c_NoRing := c_NoRing,
    ex_NoRing := ⟨PySem.W.mg_of X G x_NoRing, xe_NoRing, xk_NoRing, xb_NoRing, xt_NoRing, xi_NoRing, xv_NoRing, ⟨xg_NoRing, xh_NoRing, xb_NoRing, xd_NoRing, xc_NoRing, yn, yt, xm_NoRing⟩⟩,
    c_NoMachine := c_NoMachine,
    ex_NoMachine := ⟨PySem.W.mg_of X G x_NoMachine, xe_NoMachine, xk_NoMachine, xb_NoMachine, xt_NoMachine, xi_NoMachine, xv_NoMachine, ⟨xg_NoMachine, xh_NoMachine, xb_NoMachine, xd_NoMachine, xc_NoMachine, yn, yt, xm_NoMachine⟩⟩,
    c_NotNow := c_NotNow,
    ex_NotNow := ⟨PySem.W.mg_of X G x_NotNow, xe_NotNow, xk_NotNow, xb_NotNow, xt_NotNow, xi_NotNow, xv_NotNow, ⟨xg_NotNow, xh_NotNow, xb_NotNow, xd_NotNow, xc_NotNow, yn, yt, xm_NotNow⟩⟩,
    c_NotHealed := c_NotHealed,
    ex_NotHealed := ⟨PySem.W.mg_of X G x_NotHealed, xe_NotHealed, xk_NotHealed, xb_NotHealed, xt_NotHealed, xi_NotHealed, xv_NotHealed, ⟨xg_NotHealed, xh_NotHealed, xb_NotHealed, xd_NotHealed, xc_NotHealed, yn, yt, xm_NotHealed⟩⟩,
    c_TooGreat := c_TooGreat,
    ex_TooGreat := ⟨PySem.W.mg_of X G x_TooGreat, xe_TooGreat, xk_TooGreat, xb_TooGreat, xt_TooGreat, xi_TooGreat, xv_TooGreat, ⟨xg_TooGreat, xh_TooGreat, xb_TooGreat, xd_TooGreat, xc_TooGreat, yn, yt, xm_TooGreat⟩⟩,
    fam := fam_mk z_NoNumbers_NoNumbers z_NoNumbers_NoRing z_NoNumbers_NoMachine z_NoNumbers_NotNow z_NoNumbers_NotHealed z_NoNumbers_TooGreat z_NoNumbers_HealError z_NoRing_NoNumbers z_NoRing_NoRing z_NoRing_NoMachine z_NoRing_NotNow z_NoRing_NotHealed z_NoRing_TooGreat z_NoRing_HealError z_NoMachine_NoNumbers z_NoMachine_NoRing z_NoMachine_NoMachine z_NoMachine_NotNow z_NoMachine_NotHealed z_NoMachine_TooGreat z_NoMachine_HealError z_NotNow_NoNumbers z_NotNow_NoRing z_NotNow_NoMachine z_NotNow_NotNow z_NotNow_NotHealed z_NotNow_TooGreat z_NotNow_HealError z_NotHealed_NoNumbers z_NotHealed_NoRing z_NotHealed_NoMachine z_NotHealed_NotNow z_NotHealed_NotHealed z_NotHealed_TooGreat z_NotHealed_HealError z_TooGreat_NoNumbers z_TooGreat_NoRing z_TooGreat_NoMachine z_TooGreat_NotNow z_TooGreat_NotHealed z_TooGreat_TooGreat z_TooGreat_HealError,
    n_ValueError := PySem.W.mg_none_of X G n_ValueError,
    n_bool := PySem.W.mg_none_of X G n_bool,
    n_int := PySem.W.mg_none_of X G n_int,
    n_isinstance := PySem.W.mg_none_of X G n_isinstance,
    n_len := PySem.W.mg_none_of X G n_len,
    n_list := PySem.W.mg_none_of X G n_list,
    n_max := PySem.W.mg_none_of X G n_max,
    n_min := PySem.W.mg_none_of X G n_min,
    n_range := PySem.W.mg_none_of X G n_range,
    n_tuple := PySem.W.mg_none_of X G n_tuple }⟩
end HR
open PySem PySem.W PyProof.Rows in
set_option maxRecDepth 100000 in
set_option maxHeartbeats 0 in
theorem PySem.Challenge.cw_healring_k01_able_holds : PySem.Challenge.rw_healring_k01_able.Holds := by
  w_on; o_law; k_head; (case hw => w_witness2)
  k_fill
  refine L2.walk_ofK (l := PySem.Challenge.rw_healring_k01_able) (n := 63) (k := 8) (x := "_law_script") (CX := L2.CX0) (sp := HR.sp_law) rfl (by decide) rfl ⟨rfl, by decide, by decide⟩ (fun w h Y => PySem.W.kIn_of Y) ?F (fun K H a ns hl _ hS => HR.law_end hl hS) (fun _ _ _ _ z => z)
  case F =>
    intro w mg fa h KX G hmg
    refine' HR.all_mk KX G hmg ?a_check_many ?l_check_many ?e_check_many ?k_check_many ?a_check_machines ?l_check_machines ?e_check_machines ?k_check_machines ?a_check_ring ?l_check_ring ?e_check_ring ?k_check_ring ?a_check_machine ?l_check_machine ?e_check_machine ?k_check_machine ?a_may_step ?l_may_step ?e_may_step ?k_may_step ?a_taken ?l_taken ?e_taken ?k_taken ?a_after ?l_after ?e_after ?k_after ?a_able ?l_able ?e_able ?k_able ?a_stepped ?l_stepped ?e_stepped ?k_stepped ?a_gone ?l_gone ?e_gone ?k_gone ?a_chosen ?l_chosen ?e_chosen ?k_chosen ?a_drawn ?l_drawn ?e_drawn ?k_drawn ?a_traced ?l_traced ?e_traced ?k_traced ?a_check_enough ?l_check_enough ?e_check_enough ?k_check_enough ?a_healed ?l_healed ?e_healed ?k_healed ?a_healing ?l_healing ?e_healing ?k_healing ?a_turns ?l_turns ?e_turns ?k_turns ?a__law_cell_at ?l__law_cell_at ?e__law_cell_at ?k__law_cell_at ?a__law_mixed ?l__law_mixed ?e__law_mixed ?k__law_mixed ?a__law_size ?l__law_size ?e__law_size ?k__law_size ?a__law_many ?l__law_many ?e__law_many ?k__law_many ?a__law_ring ?l__law_ring ?e__law_ring ?k__law_ring ?a__law_able ?l__law_able ?e__law_able ?k__law_able ?a__law_listed ?l__law_listed ?e__law_listed ?k__law_listed ?a__law_alike ?l__law_alike ?e__law_alike ?k__law_alike ?a__law_only ?l__law_only ?e__law_only ?k__law_only ?a__law_wrong ?l__law_wrong ?e__law_wrong ?k__law_wrong ?a__law_due ?l__law_due ?e__law_due ?k__law_due ?a__law_asked ?l__law_asked ?e__law_asked ?k__law_asked ?a__law_told ?l__law_told ?e__law_told ?k__law_told ?a_law ?l_law ?e_law ?k_law ?v_FEWEST_MACHINES ?v_MOST_MACHINES ?v_FEWEST_NUMBERS ?v_MOST_NUMBERS ?x_HealError ?xe_HealError ?xk_HealError ?xb_HealError ?xt_HealError ?xi_HealError ?xv_HealError ?xg_HealError ?xh_HealError ?xd_HealError ?xc_HealError ?xm_HealError ?x_NoNumbers ?xe_NoNumbers ?xk_NoNumbers ?xb_NoNumbers ?xt_NoNumbers ?xi_NoNumbers ?xv_NoNumbers ?xg_NoNumbers ?xh_NoNumbers ?xd_NoNumbers ?xc_NoNumbers ?xm_NoNumbers ?x_NoRing ?xe_NoRing ?xk_NoRing ?xb_NoRing ?xt_NoRing ?xi_NoRing ?xv_NoRing ?xg_NoRing ?xh_NoRing ?xd_NoRing ?xc_NoRing ?xm_NoRing ?x_NoMachine ?xe_NoMachine ?xk_NoMachine ?xb_NoMachine ?xt_NoMachine ?xi_NoMachine ?xv_NoMachine ?xg_NoMachine ?xh_NoMachine ?xd_NoMachine ?xc_NoMachine ?xm_NoMachine ?x_NotNow ?xe_NotNow ?xk_NotNow ?xb_NotNow ?xt_NotNow ?xi_NotNow ?xv_NotNow ?xg_NotNow ?xh_NotNow ?xd_NotNow ?xc_NotNow ?xm_NotNow ?x_NotHealed ?xe_NotHealed ?xk_NotHealed ?xb_NotHealed ?xt_NotHealed ?xi_NotHealed ?xv_NotHealed ?xg_NotHealed ?xh_NotHealed ?xd_NotHealed ?xc_NotHealed ?xm_NotHealed ?x_TooGreat ?xe_TooGreat ?xk_TooGreat ?xb_TooGreat ?xt_TooGreat ?xi_TooGreat ?xv_TooGreat ?xg_TooGreat ?xh_TooGreat ?xd_TooGreat ?xc_TooGreat ?xm_TooGreat ?yn ?yt ?z_NoNumbers_HealError ?z_NoNumbers_NoNumbers ?z_NoNumbers_NoRing ?z_NoNumbers_NoMachine ?z_NoNumbers_NotNow ?z_NoNumbers_NotHealed ?z_NoNumbers_TooGreat ?z_NoRing_HealError ?z_NoRing_NoNumbers ?z_NoRing_NoRing ?z_NoRing_NoMachine ?z_NoRing_NotNow ?z_NoRing_NotHealed ?z_NoRing_TooGreat ?z_NoMachine_HealError ?z_NoMachine_NoNumbers ?z_NoMachine_NoRing ?z_NoMachine_NoMachine ?z_NoMachine_NotNow ?z_NoMachine_NotHealed ?z_NoMachine_TooGreat ?z_NotNow_HealError ?z_NotNow_NoNumbers ?z_NotNow_NoRing ?z_NotNow_NoMachine ?z_NotNow_NotNow ?z_NotNow_NotHealed ?z_NotNow_TooGreat ?z_NotHealed_HealError ?z_NotHealed_NoNumbers ?z_NotHealed_NoRing ?z_NotHealed_NoMachine ?z_NotHealed_NotNow ?z_NotHealed_NotHealed ?z_NotHealed_TooGreat ?z_TooGreat_HealError ?z_TooGreat_NoNumbers ?z_TooGreat_NoRing ?z_TooGreat_NoMachine ?z_TooGreat_NotNow ?z_TooGreat_NotHealed ?z_TooGreat_TooGreat ?n_ValueError ?n_bool ?n_int ?n_isinstance ?n_len ?n_list ?n_max ?n_min ?n_range ?n_tuple
    (case a_check_many => k_is)
    (case l_check_many => k_is)
    (case e_check_many => k_is)
    (case k_check_many => k_is)
    (case a_check_machines => k_is)
    (case l_check_machines => k_is)
    (case e_check_machines => k_is)
    (case k_check_machines => k_is)
    (case a_check_ring => k_is)
    (case l_check_ring => k_is)
    (case e_check_ring => k_is)
    (case k_check_ring => k_is)
    (case a_check_machine => k_is)
    (case l_check_machine => k_is)
    (case e_check_machine => k_is)
    (case k_check_machine => k_is)
    (case a_may_step => k_is)
    (case l_may_step => k_is)
    (case e_may_step => k_is)
    (case k_may_step => k_is)
    (case a_taken => k_is)
    (case l_taken => k_is)
    (case e_taken => k_is)
    (case k_taken => k_is)
    (case a_after => k_is)
    (case l_after => k_is)
    (case e_after => k_is)
    (case k_after => k_is)
    (case a_able => k_is)
    (case l_able => k_is)
    (case e_able => k_is)
    (case k_able => k_is)
    (case a_stepped => k_is)
    (case l_stepped => k_is)
    (case e_stepped => k_is)
    (case k_stepped => k_is)
    (case a_gone => k_is)
    (case l_gone => k_is)
    (case e_gone => k_is)
    (case k_gone => k_is)
    (case a_chosen => k_is)
    (case l_chosen => k_is)
    (case e_chosen => k_is)
    (case k_chosen => k_is)
    (case a_drawn => k_is)
    (case l_drawn => k_is)
    (case e_drawn => k_is)
    (case k_drawn => k_is)
    (case a_traced => k_is)
    (case l_traced => k_is)
    (case e_traced => k_is)
    (case k_traced => k_is)
    (case a_check_enough => k_is)
    (case l_check_enough => k_is)
    (case e_check_enough => k_is)
    (case k_check_enough => k_is)
    (case a_healed => k_is)
    (case l_healed => k_is)
    (case e_healed => k_is)
    (case k_healed => k_is)
    (case a_healing => k_is)
    (case l_healing => k_is)
    (case e_healing => k_is)
    (case k_healing => k_is)
    (case a_turns => k_is)
    (case l_turns => k_is)
    (case e_turns => k_is)
    (case k_turns => k_is)
    (case a__law_cell_at => k_is)
    (case l__law_cell_at => k_is)
    (case e__law_cell_at => k_is)
    (case k__law_cell_at => k_is)
    (case a__law_mixed => k_is)
    (case l__law_mixed => k_is)
    (case e__law_mixed => k_is)
    (case k__law_mixed => k_is)
    (case a__law_size => k_is)
    (case l__law_size => k_is)
    (case e__law_size => k_is)
    (case k__law_size => k_is)
    (case a__law_many => k_is)
    (case l__law_many => k_is)
    (case e__law_many => k_is)
    (case k__law_many => k_is)
    (case a__law_ring => k_is)
    (case l__law_ring => k_is)
    (case e__law_ring => k_is)
    (case k__law_ring => k_is)
    (case a__law_able => k_is)
    (case l__law_able => k_is)
    (case e__law_able => k_is)
    (case k__law_able => k_is)
    (case a__law_listed => k_is)
    (case l__law_listed => k_is)
    (case e__law_listed => k_is)
    (case k__law_listed => k_is)
    (case a__law_alike => k_is)
    (case l__law_alike => k_is)
    (case e__law_alike => k_is)
    (case k__law_alike => k_is)
    (case a__law_only => k_is)
    (case l__law_only => k_is)
    (case e__law_only => k_is)
    (case k__law_only => k_is)
    (case a__law_wrong => k_is)
    (case l__law_wrong => k_is)
    (case e__law_wrong => k_is)
    (case k__law_wrong => k_is)
    (case a__law_due => k_is)
    (case l__law_due => k_is)
    (case e__law_due => k_is)
    (case k__law_due => k_is)
    (case a__law_asked => k_is)
    (case l__law_asked => k_is)
    (case e__law_asked => k_is)
    (case k__law_asked => k_is)
    (case a__law_told => k_is)
    (case l__law_told => k_is)
    (case e__law_told => k_is)
    (case k__law_told => k_is)
    (case a_law => k_is)
    (case l_law => k_is)
    (case e_law => k_is)
    (case k_law => k_is)
    (case v_FEWEST_MACHINES => k_is)
    (case v_MOST_MACHINES => k_is)
    (case v_FEWEST_NUMBERS => k_is)
    (case v_MOST_NUMBERS => k_is)
    (case x_HealError => k_is)
    (case xe_HealError => k_exc)
    (case xk_HealError => k_is)
    (case xb_HealError => k_is)
    (case xt_HealError => k_is)
    (case xi_HealError => k_is)
    (case xv_HealError => k_is)
    (case xg_HealError => k_is)
    (case xh_HealError => k_is)
    (case xd_HealError => k_is)
    (case xc_HealError => k_is)
    (case xm_HealError => k_is)
    (case x_NoNumbers => k_is)
    (case xe_NoNumbers => k_exc)
    (case xk_NoNumbers => k_is)
    (case xb_NoNumbers => k_is)
    (case xt_NoNumbers => k_is)
    (case xi_NoNumbers => k_is)
    (case xv_NoNumbers => k_is)
    (case xg_NoNumbers => k_is)
    (case xh_NoNumbers => k_is)
    (case xd_NoNumbers => k_is)
    (case xc_NoNumbers => k_is)
    (case xm_NoNumbers => k_is)
    (case x_NoRing => k_is)
    (case xe_NoRing => k_exc)
    (case xk_NoRing => k_is)
    (case xb_NoRing => k_is)
    (case xt_NoRing => k_is)
    (case xi_NoRing => k_is)
    (case xv_NoRing => k_is)
    (case xg_NoRing => k_is)
    (case xh_NoRing => k_is)
    (case xd_NoRing => k_is)
    (case xc_NoRing => k_is)
    (case xm_NoRing => k_is)
    (case x_NoMachine => k_is)
    (case xe_NoMachine => k_exc)
    (case xk_NoMachine => k_is)
    (case xb_NoMachine => k_is)
    (case xt_NoMachine => k_is)
    (case xi_NoMachine => k_is)
    (case xv_NoMachine => k_is)
    (case xg_NoMachine => k_is)
    (case xh_NoMachine => k_is)
    (case xd_NoMachine => k_is)
    (case xc_NoMachine => k_is)
    (case xm_NoMachine => k_is)
    (case x_NotNow => k_is)
    (case xe_NotNow => k_exc)
    (case xk_NotNow => k_is)
    (case xb_NotNow => k_is)
    (case xt_NotNow => k_is)
    (case xi_NotNow => k_is)
    (case xv_NotNow => k_is)
    (case xg_NotNow => k_is)
    (case xh_NotNow => k_is)
    (case xd_NotNow => k_is)
    (case xc_NotNow => k_is)
    (case xm_NotNow => k_is)
    (case x_NotHealed => k_is)
    (case xe_NotHealed => k_exc)
    (case xk_NotHealed => k_is)
    (case xb_NotHealed => k_is)
    (case xt_NotHealed => k_is)
    (case xi_NotHealed => k_is)
    (case xv_NotHealed => k_is)
    (case xg_NotHealed => k_is)
    (case xh_NotHealed => k_is)
    (case xd_NotHealed => k_is)
    (case xc_NotHealed => k_is)
    (case xm_NotHealed => k_is)
    (case x_TooGreat => k_is)
    (case xe_TooGreat => k_exc)
    (case xk_TooGreat => k_is)
    (case xb_TooGreat => k_is)
    (case xt_TooGreat => k_is)
    (case xi_TooGreat => k_is)
    (case xv_TooGreat => k_is)
    (case xg_TooGreat => k_is)
    (case xh_TooGreat => k_is)
    (case xd_TooGreat => k_is)
    (case xc_TooGreat => k_is)
    (case xm_TooGreat => k_is)
    (case yn => k_is)
    (case yt => k_is)
    (case z_NoNumbers_HealError => first | k_is | rfl)
    (case z_NoNumbers_NoNumbers => first | k_is | rfl)
    (case z_NoNumbers_NoRing => first | k_is | rfl)
    (case z_NoNumbers_NoMachine => first | k_is | rfl)
    (case z_NoNumbers_NotNow => first | k_is | rfl)
    (case z_NoNumbers_NotHealed => first | k_is | rfl)
    (case z_NoNumbers_TooGreat => first | k_is | rfl)
    (case z_NoRing_HealError => first | k_is | rfl)
    (case z_NoRing_NoNumbers => first | k_is | rfl)
    (case z_NoRing_NoRing => first | k_is | rfl)
    (case z_NoRing_NoMachine => first | k_is | rfl)
    (case z_NoRing_NotNow => first | k_is | rfl)
    (case z_NoRing_NotHealed => first | k_is | rfl)
    (case z_NoRing_TooGreat => first | k_is | rfl)
    (case z_NoMachine_HealError => first | k_is | rfl)
    (case z_NoMachine_NoNumbers => first | k_is | rfl)
    (case z_NoMachine_NoRing => first | k_is | rfl)
    (case z_NoMachine_NoMachine => first | k_is | rfl)
    (case z_NoMachine_NotNow => first | k_is | rfl)
    (case z_NoMachine_NotHealed => first | k_is | rfl)
    (case z_NoMachine_TooGreat => first | k_is | rfl)
    (case z_NotNow_HealError => first | k_is | rfl)
    (case z_NotNow_NoNumbers => first | k_is | rfl)
    (case z_NotNow_NoRing => first | k_is | rfl)
    (case z_NotNow_NoMachine => first | k_is | rfl)
    (case z_NotNow_NotNow => first | k_is | rfl)
    (case z_NotNow_NotHealed => first | k_is | rfl)
    (case z_NotNow_TooGreat => first | k_is | rfl)
    (case z_NotHealed_HealError => first | k_is | rfl)
    (case z_NotHealed_NoNumbers => first | k_is | rfl)
    (case z_NotHealed_NoRing => first | k_is | rfl)
    (case z_NotHealed_NoMachine => first | k_is | rfl)
    (case z_NotHealed_NotNow => first | k_is | rfl)
    (case z_NotHealed_NotHealed => first | k_is | rfl)
    (case z_NotHealed_TooGreat => first | k_is | rfl)
    (case z_TooGreat_HealError => first | k_is | rfl)
    (case z_TooGreat_NoNumbers => first | k_is | rfl)
    (case z_TooGreat_NoRing => first | k_is | rfl)
    (case z_TooGreat_NoMachine => first | k_is | rfl)
    (case z_TooGreat_NotNow => first | k_is | rfl)
    (case z_TooGreat_NotHealed => first | k_is | rfl)
    (case z_TooGreat_TooGreat => first | k_is | rfl)
    (case n_ValueError => k_is)
    (case n_bool => k_is)
    (case n_int => k_is)
    (case n_isinstance => k_is)
    (case n_len => k_is)
    (case n_list => k_is)
    (case n_max => k_is)
    (case n_min => k_is)
    (case n_range => k_is)
    (case n_tuple => k_is)
