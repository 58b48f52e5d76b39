/-
  Layer 14: Puts of unlike times; two Keeps beside each other. Written by an AI agent.
-/
import Derived.Test.YtpighdioomjnmabKpT
import Derived.Test.YtpighdioomjnmabKpR
namespace Go.Proofs.Ytpighdioomjnmab
open Go.RowKit Go.Shelf
set_option linter.unusedVariables false
set_option linter.unusedSimpArgs false

/-- What there is behind i Puts of unlike times. -/
structure Unl (σ : Nat → Nat) (P : Nat → Int × Int) (i : Nat) (M : List (Int × Int)) : Prop where
  len : M.length = i
  mem : ∀ p, p ∈ M ↔ ∃ j, j < i ∧ p = P (σ j)

theorem Unl.nil (σ : Nat → Nat) (P : Nat → Int × Int) : Unl σ P 0 [] := ⟨rfl, fun p => ⟨fun h => (by cases h), fun ⟨j, h, _⟩ => absurd h (Nat.not_lt_zero _)⟩⟩
theorem Unl.put {σ : Nat → Nat} {P : Nat → Int × Int} {n i : Nat} {L M : List (Int × Int)} (h : Unl σ P i L) (hi : i < n) (hn : n ≤ 16) (hinj : ∀ j j', j < n → j' < n → σ j = σ j' → j = j') (hlt : ∀ j, j < n → σ j < n)
    (hP : ∀ m m', m < n → m' < n → (P m).1 = (P m').1 → m = m') (hp : PutD 16 L (P (σ i)).1 (P (σ i)).2 M) : Unl σ P (i + 1) M := by
  have hl := h.len
  rcases hp with ⟨k, hk, ha, rfl⟩ | ⟨r, hr, h1, h2, rfl⟩
  · obtain ⟨j, hj, e⟩ := (h.mem _).1 (getD_mem hk)
    rw [e] at ha
    have := hinj j i (by omega) hi (hP _ _ (hlt j (by omega)) (hlt i hi) ha)
    omega
  · have e : newK 16 L r (P (σ i)).1 (P (σ i)).2 = insK L r (P (σ i)) := by
      unfold newK
      rw [if_neg (by omega)]
    rw [e]
    refine ⟨by rw [insK_length, hl], fun p => ?_⟩
    rw [mem_ins, h.mem]
    constructor
    · rintro (rfl | ⟨j, hj, rfl⟩)
      · exact ⟨i, by omega, rfl⟩
      · exact ⟨j, by omega, rfl⟩
    · rintro ⟨j, hj, rfl⟩
      rcases Nat.lt_or_ge j i with h5 | h5
      · exact .inr ⟨j, h5, rfl⟩
      · obtain rfl : j = i := by omega
        exact .inl rfl

theorem pairs_ext : ∀ {L M : List (Int × Int)}, (L.Pairwise fun a b => a.1 < b.1) → (M.Pairwise fun a b => a.1 < b.1) → (∀ p, p ∈ L ↔ p ∈ M) → L = M
  | [], [], _, _, _ => rfl
  | [], b :: M, _, _, h => absurd ((h b).2 (List.mem_cons_self ..)) (by simp)
  | a :: L, [], _, _, h => absurd ((h a).1 (List.mem_cons_self ..)) (by simp)
  | a :: L, b :: M, hL, hM, h => by
    obtain ⟨l1, l2⟩ := List.pairwise_cons.1 hL
    obtain ⟨m1, m2⟩ := List.pairwise_cons.1 hM
    have hab : a = b := by
      rcases List.mem_cons.1 ((h a).1 (List.mem_cons_self ..)) with h1 | h1
      · exact h1
      · rcases List.mem_cons.1 ((h b).2 (List.mem_cons_self ..)) with h2 | h2
        · exact h2.symm
        · have := m1 a h1
          have := l1 b h2
          omega
    subst hab
    congr 1
    refine pairs_ext l2 m2 fun p => ⟨fun hp => ?_, fun hp => ?_⟩
    · rcases List.mem_cons.1 ((h p).1 (List.mem_cons_of_mem _ hp)) with h1 | h1
      · have := l1 p hp
        rw [h1] at this
        omega
      · exact h1
    · rcases List.mem_cons.1 ((h p).2 (List.mem_cons_of_mem _ hp)) with h1 | h1
      · have := m1 p hp
        rw [h1] at this
        omega
      · exact h1

/-- The order of the Puts does not matter. -/
theorem Unl.same {P : Nat → Int × Int} {n f : Nat} {L M : List (Int × Int)} (hn : 0 < n) (h : Unl (fun j => j) P n L) (h' : Unl (fun j => (j + f) % n) P n M) (hL : Up L) (hM : Up M) : M = L := by
  refine pairs_ext ((up_iff M).1 hM) ((up_iff L).1 hL) fun p => ?_
  rw [h.mem, h'.mem]
  constructor
  · rintro ⟨j, hj, rfl⟩
    exact ⟨(j + f) % n, Nat.mod_lt _ hn, rfl⟩
  · rintro ⟨j, hj, rfl⟩
    refine ⟨(j + (n - f % n)) % n, Nat.mod_lt _ hn, ?_⟩
    have hf : f % n < n := Nat.mod_lt _ hn
    have e : ((j + (n - f % n)) % n + f) % n = j := by
      rw [Nat.mod_add_mod]
      have e2 : j + (n - f % n) + f = j + n * (f / n + 1) := by
        have := Nat.div_add_mod f n
        rw [Nat.mul_add, Nat.mul_one]
        omega
      rw [e2, Nat.add_mul_mod_self_left, Nat.mod_eq_of_lt hj]
    show P j = P (((j + (n - f % n)) % n + f) % n)
    rw [e]

theorem rot_inj {n f : Nat} : ∀ j j', j < n → j' < n → (j + f) % n = (j' + f) % n → j = j' := by
  intro j j' hj hj' h
  have h1 := Nat.div_add_mod (j + f) n
  have h2 := Nat.div_add_mod (j' + f) n
  rw [h] at h1
  rcases Nat.lt_trichotomy ((j + f) / n) ((j' + f) / n) with hd | hd | hd
  · have : n * ((j + f) / n + 1) ≤ n * ((j' + f) / n) := Nat.mul_le_mul_left _ hd
    rw [Nat.mul_add, Nat.mul_one] at this
    omega
  · rw [hd] at h1
    omega
  · have : n * ((j' + f) / n + 1) ≤ n * ((j + f) / n) := Nat.mul_le_mul_left _ hd
    rw [Nat.mul_add, Nat.mul_one] at this
    omega

/-- Things to do as cells. -/
def flat3 (O : List (Nat × Int × Int)) : List Value := O.flatMap fun t => [.int .u8 ((t.1 : Nat) : Int), .int .i64 t.2.1, .int .i64 t.2.2]
theorem flat3_append (L M : List (Nat × Int × Int)) : flat3 (L ++ M) = flat3 L ++ flat3 M := by simp [flat3]
theorem flat3_length (L : List (Nat × Int × Int)) : (flat3 L).length = L.length * 3 := by
  induction L with
  | nil => rfl
  | cons a L ih =>
    have e : flat3 (a :: L) = [.int .u8 ((a.1 : Nat) : Int), .int .i64 a.2.1, .int .i64 a.2.2] ++ flat3 L := by simp [flat3]
    rw [e, List.length_append, ih, List.length_cons]
    simp
    omega
theorem flat3_at (L : List (Nat × Int × Int)) (i : Nat) (h : i < L.length) : (flat3 L)[i * 3]? = some (.int .u8 (((L.getD i (0, 0, 0)).1 : Nat) : Int)) ∧ (flat3 L)[i * 3 + 1]? = some (.int .i64 (L.getD i (0, 0, 0)).2.1) ∧ (flat3 L)[i * 3 + 2]? = some (.int .i64 (L.getD i (0, 0, 0)).2.2) := by
  induction L generalizing i with
  | nil => exact absurd h (Nat.not_lt_zero _)
  | cons a L ih =>
    have e : flat3 (a :: L) = .int .u8 ((a.1 : Nat) : Int) :: .int .i64 a.2.1 :: .int .i64 a.2.2 :: flat3 L := by simp [flat3]
    rw [e]
    cases i with
    | zero => exact ⟨rfl, rfl, rfl⟩
    | succ i =>
      have h2 := ih i (by simpa using h)
      rw [show (i + 1) * 3 = i * 3 + 1 + 1 + 1 by omega]
      exact h2

/-- The times are unlike. -/
def Dist (O : List (Nat × Int × Int)) : Prop := ∀ m m', m < O.length → m' < O.length → (O.getD m (0, 0, 0)).2.1 = (O.getD m' (0, 0, 0)).2.1 → m = m'
theorem getD_snoc3 {O : List (Nat × Int × Int)} {t : Nat × Int × Int} {m : Nat} (h : m < O.length + 1) : (O ++ [t]).getD m (0, 0, 0) = if m < O.length then O.getD m (0, 0, 0) else t := by
  rw [List.getD_eq_getElem?_getD]
  split
  · rename_i h1
    rw [List.getElem?_append_left h1, ← List.getD_eq_getElem?_getD]
  · rename_i h1
    obtain rfl : m = O.length := by omega
    rw [List.getElem?_append_right (Nat.le_refl _), Nat.sub_self]
    rfl
theorem Dist.snoc {O : List (Nat × Int × Int)} {t : Nat × Int × Int} (h : Dist O) (ht : ∀ m, m < O.length → (O.getD m (0, 0, 0)).2.1 ≠ t.2.1) : Dist (O ++ [t]) := by
  intro m m' hm hm' e
  rw [List.length_append, List.length_singleton] at hm hm'
  rw [getD_snoc3 hm, getD_snoc3 hm'] at e
  by_cases h1 : m < O.length
  · by_cases h2 : m' < O.length
    · rw [if_pos h1, if_pos h2] at e
      exact h m m' h1 h2 e
    · rw [if_pos h1, if_neg h2] at e
      exact absurd e (ht m h1)
  · by_cases h2 : m' < O.length
    · rw [if_neg h1, if_pos h2] at e
      exact absurd e.symm (ht m' h2)
    · omega

/-- Whether one of the first m is at a time. -/
def Has (O : List (Nat × Int × Int)) (a : Int) (m : Nat) (th : Bool) : Prop := th = true ↔ ∃ i, i < m ∧ (O.getD i (0, 0, 0)).2.1 = a
theorem Has.zero (O : List (Nat × Int × Int)) (a : Int) : Has O a 0 false := ⟨fun h => (by cases h), fun ⟨i, h, _⟩ => absurd h (Nat.not_lt_zero _)⟩
theorem Has.more {O : List (Nat × Int × Int)} {a : Int} {m : Nat} (h : Has O a m true) : Has O a (m + 1) true := ⟨fun _ => by
  obtain ⟨i, h1, h2⟩ := h.1 rfl
  exact ⟨i, by omega, h2⟩, fun _ => rfl⟩
theorem Has.yes {O : List (Nat × Int × Int)} {a : Int} {m : Nat} (h : (O.getD m (0, 0, 0)).2.1 = a) : Has O a (m + 1) true := ⟨fun _ => ⟨m, Nat.lt_succ_self _, h⟩, fun _ => rfl⟩
theorem Has.no {O : List (Nat × Int × Int)} {a : Int} {m : Nat} (h : Has O a m false) (hm : (O.getD m (0, 0, 0)).2.1 ≠ a) : Has O a (m + 1) false := by
  refine ⟨fun h => (by cases h), ?_⟩
  rintro ⟨i, h1, h2⟩
  rcases Nat.lt_or_ge i m with h3 | h3
  · exact h.2 ⟨i, h3, h2⟩
  · obtain rfl : i = m := by omega
    exact absurd h2 hm

/-- Two Keeps beside each other. -/
structure Two (C : Nat) (w : World) (Sa Sb : Nat → Prop) (pa pb : Nat) (La Lb : List (Int × Int)) : Prop where
  a : ∃ v, KeepIs w Sa pa 16 v La
  b : ∃ v, KeepIs w Sb pb 16 v Lb
  sa : ∀ k, Sa k → (k = pa ∨ C ≤ k) ∧ k < w.heap.size
  sb : ∀ k, Sb k → (k = pb ∨ C ≤ k) ∧ k < w.heap.size
  ne : ∀ k, Sa k → ¬ Sb k

theorem Two.keep {C : Nat} {w w' : World} {Sa Sb : Nat → Prop} {pa pb : Nat} {La Lb : List (Int × Int)} (H : Two C w Sa Sb pa pb La Lb) (hk : Keeps (fun _ => False) w w') : Two C w' Sa Sb pa pb La Lb := by
  obtain ⟨va, ha⟩ := H.a
  obtain ⟨vb, hb⟩ := H.b
  exact ⟨⟨va, ha.keep hk (fun _ _ _ h => h)⟩, ⟨vb, hb.keep hk (fun _ _ _ h => h)⟩, fun k h => ⟨(H.sa k h).1, Nat.lt_of_lt_of_le (H.sa k h).2 hk.size⟩, fun k h => ⟨(H.sb k h).1, Nat.lt_of_lt_of_le (H.sb k h).2 hk.size⟩, H.ne⟩

theorem Two.stepA {C : Nat} {w w' : World} {Sa Sb : Nat → Prop} {pa pb : Nat} {La Lb M : List (Int × Int)} {v' : Value} (H : Two C w Sa Sb pa pb La Lb) (hC : C ≤ w.heap.size) (h' : KeepIs w' (fun k => Sa k ∨ (w.heap.size ≤ k ∧ k < w'.heap.size)) pa 16 v' M) (hk : Keeps Sa w w') :
    Two C w' (fun k => Sa k ∨ (w.heap.size ≤ k ∧ k < w'.heap.size)) Sb pa pb M Lb := by
  obtain ⟨vb, hb⟩ := H.b
  refine ⟨⟨v', h'⟩, ⟨vb, hb.keep hk (fun k _ hS hT => H.ne k hT hS)⟩, fun k h => ?_, fun k h => ⟨(H.sb k h).1, Nat.lt_of_lt_of_le (H.sb k h).2 hk.size⟩, fun k h hS => ?_⟩
  · rcases h with h | h
    · exact ⟨(H.sa k h).1, Nat.lt_of_lt_of_le (H.sa k h).2 hk.size⟩
    · exact ⟨.inr (by omega), h.2⟩
  · rcases h with h | h
    · exact H.ne k h hS
    · have := (H.sb k hS).2
      omega

theorem Two.stepB {C : Nat} {w w' : World} {Sa Sb : Nat → Prop} {pa pb : Nat} {La Lb M : List (Int × Int)} {v' : Value} (H : Two C w Sa Sb pa pb La Lb) (hC : C ≤ w.heap.size) (h' : KeepIs w' (fun k => Sb k ∨ (w.heap.size ≤ k ∧ k < w'.heap.size)) pb 16 v' M) (hk : Keeps Sb w w') :
    Two C w' Sa (fun k => Sb k ∨ (w.heap.size ≤ k ∧ k < w'.heap.size)) pa pb La M := by
  obtain ⟨va, ha⟩ := H.a
  refine ⟨⟨va, ha.keep hk (fun k _ hS hT => H.ne k hS hT)⟩, ⟨v', h'⟩, fun k h => ⟨(H.sa k h).1, Nat.lt_of_lt_of_le (H.sa k h).2 hk.size⟩, fun k h => ?_, fun k hS h => ?_⟩
  · rcases h with h | h
    · exact ⟨(H.sb k h).1, Nat.lt_of_lt_of_le (H.sb k h).2 hk.size⟩
    · exact ⟨.inr (by omega), h.2⟩
  · rcases h with h | h
    · exact H.ne k hS h
    · have := (H.sa k hS).2
      omega

end Go.Proofs.Ytpighdioomjnmab
