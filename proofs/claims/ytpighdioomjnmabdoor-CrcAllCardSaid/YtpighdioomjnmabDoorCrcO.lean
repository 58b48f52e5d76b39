/-
  Layer 20: a row of bytes as one number, and what no burst of 32 bits can do: no Go in sight. Written by an AI agent.
-/
import Derived.Test.YtpighdioomjnmabDoorCrcN
namespace Go.Proofs.YtpighdioomjnmabDoor

/-- One halving; so many. -/
def hN (r : Nat) : Nat := (r / 2) ^^^ (if r % 2 = 1 then 3988292384 else 0)
def hK : Nat → Nat → Nat
  | 0, r => r
  | k + 1, r => hK k (hN r)
theorem xor_half (a b : Nat) : (a ^^^ b) / 2 = (a / 2) ^^^ (b / 2) := Nat.xor_div_two_pow (n := 1)
theorem xor_par (a b : Nat) : (a ^^^ b) % 2 = (a % 2) ^^^ (b % 2) := Nat.xor_mod_two_pow (n := 1)
theorem hN_xor (a b : Nat) : hN (a ^^^ b) = hN a ^^^ hN b := by
  unfold hN
  rw [xor_half, xor_par]
  rcases Nat.mod_two_eq_zero_or_one a with ha | ha <;> rcases Nat.mod_two_eq_zero_or_one b with hb | hb <;> rw [ha, hb]
  · simp
  · simp [Nat.xor_assoc]
  · simp only [Nat.xor_zero, if_true, Nat.zero_ne_one, if_false]
    rw [Nat.xor_assoc, Nat.xor_assoc, Nat.xor_comm (b / 2)]
  · simp only [Nat.xor_self, if_true, Nat.zero_ne_one, if_false, Nat.xor_zero]
    rw [Nat.xor_assoc, ← Nat.xor_assoc 3988292384, Nat.xor_comm 3988292384 (b / 2), Nat.xor_assoc (b / 2), Nat.xor_self, Nat.xor_zero]
theorem hN_two (y : Nat) : hN (2 * y) = y := by
  unfold hN
  rw [show 2 * y / 2 = y by omega, show 2 * y % 2 = 0 by omega]
  simp
theorem hN_lt {a : Nat} (h : a < 4294967296) : hN a < 4294967296 := by
  unfold hN
  refine xor_lt (by omega) ?_
  split <;> omega
theorem hN_zero {a : Nat} (ha : a < 4294967296) (h : hN a = 0) : a = 0 := by
  unfold hN at h
  have h1 : a / 2 = (if a % 2 = 1 then 3988292384 else 0) := xor_cancel (c := if a % 2 = 1 then 3988292384 else 0) (by rw [h, Nat.xor_self])
  split at h1 <;> omega
theorem hK_xor (k : Nat) : ∀ a b, hK k (a ^^^ b) = hK k a ^^^ hK k b := by
  induction k with
  | zero => intro a b; rfl
  | succ k ih => intro a b; show hK k (hN (a ^^^ b)) = _; rw [hN_xor, ih]; rfl
theorem hK_add (k j : Nat) : ∀ a, hK (k + j) a = hK j (hK k a) := by
  induction k with
  | zero => intro a; rw [Nat.zero_add]; rfl
  | succ k ih => intro a; rw [Nat.succ_add]; exact ih (hN a)
theorem hK_pow (k : Nat) : ∀ y, hK k (2 ^ k * y) = y := by
  induction k with
  | zero => intro y; show 2 ^ 0 * y = y; omega
  | succ k ih =>
    intro y
    show hK k (hN (2 ^ (k + 1) * y)) = y
    rw [show 2 ^ (k + 1) * y = 2 * (2 ^ k * y) by rw [Nat.pow_succ, Nat.mul_comm (2 ^ k) 2, Nat.mul_assoc], hN_two, ih]
theorem hK_zero (k : Nat) : ∀ a, a < 4294967296 → hK k a = 0 → a = 0 := by
  induction k with
  | zero => intro a _ h; exact h
  | succ k ih => intro a ha h; exact hN_zero ha (ih (hN a) (hN_lt ha) h)
/-- Lower bits and higher ones. -/
theorem low_high (k q t : Nat) (ht : t < 2 ^ k) : t + 2 ^ k * q = t ^^^ (2 ^ k * q) := by
  have hp : 0 < 2 ^ k := Nat.two_pow_pos k
  have e1 : (t ^^^ (2 ^ k * q)) / 2 ^ k = q := by
    rw [Nat.xor_div_two_pow, Nat.div_eq_of_lt ht, Nat.mul_div_cancel_left q hp, Nat.zero_xor]
  have e2 : (t ^^^ (2 ^ k * q)) % 2 ^ k = t := by
    rw [Nat.xor_mod_two_pow, Nat.mod_eq_of_lt ht, Nat.mul_mod_right, Nat.xor_zero]
  have := Nat.div_add_mod (t ^^^ (2 ^ k * q)) (2 ^ k)
  rw [e1, e2] at this
  omega
theorem tab_hK : ∀ t, t < 16 → tabN t = hK 4 t := by decide +kernel
theorem halfN_hK (a : Nat) : halfN a = hK 4 a := by
  have e : a = (a % 16) ^^^ (2 ^ 4 * (a / 16)) := by
    rw [← low_high 4 (a / 16) (a % 16) (by omega)]
    omega
  conv => rhs; rw [e]
  rw [hK_xor, hK_pow, ← tab_hK _ (by omega), Nat.xor_comm]
  rfl
theorem stepN_hK (n v : Nat) : stepN n v = hK 8 (n ^^^ v) := by
  unfold stepN
  rw [halfN_hK, halfN_hK, ← hK_add]

/-- Bytes as a number, the lowest first. -/
def num : List Nat → Nat
  | [] => 0
  | v :: l => v + 256 * num l
theorem num_lt (l : List Nat) (hl : ∀ v ∈ l, v < 256) : num l < 2 ^ (8 * l.length) := by
  induction l with
  | nil => decide
  | cons v l ih =>
    have h1 := hl v (List.mem_cons_self ..)
    have h2 := ih (fun x hx => hl x (List.mem_cons_of_mem _ hx))
    show v + 256 * num l < 2 ^ (8 * (l.length + 1))
    rw [show 8 * (l.length + 1) = 8 * l.length + 8 by omega, Nat.pow_add]
    omega
theorem runN_num (l : List Nat) (hl : ∀ v ∈ l, v < 256) : ∀ r, runN r l = hK (8 * l.length) (r ^^^ num l) := by
  induction l with
  | nil => intro r; show r = r ^^^ 0; rw [Nat.xor_zero]
  | cons v l ih =>
    intro r
    have h1 := hl v (List.mem_cons_self ..)
    show runN (stepN r v) l = hK (8 * (l.length + 1)) (r ^^^ (v + 256 * num l))
    rw [ih (fun x hx => hl x (List.mem_cons_of_mem _ hx)), show 8 * (l.length + 1) = 8 + 8 * l.length by omega, hK_add, stepN_hK]
    congr 1
    rw [show v + 256 * num l = v ^^^ (2 ^ 8 * num l) from low_high 8 (num l) v h1, ← Nat.xor_assoc, hK_xor 8 (r ^^^ v) (2 ^ 8 * num l), hK_pow]
theorem num_inj (a : List Nat) : ∀ b, a.length = b.length → (∀ v ∈ a, v < 256) → (∀ v ∈ b, v < 256) → num a = num b → a = b := by
  induction a with
  | nil => intro b h _ _ _; exact (List.eq_nil_of_length_eq_zero h.symm).symm
  | cons v a ih =>
    intro b h ha hb he
    rcases b with _ | ⟨u, b⟩
    · simp at h
    · have h1 := ha v (List.mem_cons_self ..)
      have h2 := hb u (List.mem_cons_self ..)
      have h3 : v + 256 * num a = u + 256 * num b := he
      have h4 : v = u := by omega
      have h5 : num a = num b := by omega
      rw [h4, ih b (by simpa using h) (fun x hx => ha x (List.mem_cons_of_mem _ hx)) (fun x hx => hb x (List.mem_cons_of_mem _ hx)) h5]
/-- A bit of a byte turned is a bit of the number turned. -/
theorem num_set (l : List Nat) (hl : ∀ v ∈ l, v < 256) : ∀ j s, j < l.length → s < 8 → num (l.set j (l.getD j 0 ^^^ 2 ^ s)) = num l ^^^ 2 ^ (8 * j + s) := by
  induction l with
  | nil => intro j s h; simp at h
  | cons v l ih =>
    intro j s hj hs
    have h1 := hl v (List.mem_cons_self ..)
    have hp : 2 ^ s < 2 ^ 8 := Nat.pow_lt_pow_right (by omega) hs
    rcases j with _ | j
    · show (v ^^^ 2 ^ s) + 256 * num l = (v + 256 * num l) ^^^ 2 ^ (8 * 0 + s)
      have h2 : v ^^^ 2 ^ s < 2 ^ 8 := Nat.xor_lt_two_pow h1 hp
      rw [show (256 : Nat) = 2 ^ 8 from rfl, low_high 8 (num l) _ h2, low_high 8 (num l) v h1, Nat.xor_assoc, Nat.xor_assoc, Nat.xor_comm (2 ^ s), show 8 * 0 + s = s by omega]
    · have h3 := ih (fun x hx => hl x (List.mem_cons_of_mem _ hx)) j s (by simpa using hj) hs
      show v + 256 * num (l.set j (l.getD j 0 ^^^ 2 ^ s)) = (v + 256 * num l) ^^^ 2 ^ (8 * (j + 1) + s)
      rw [h3, show (256 : Nat) = 2 ^ 8 from rfl, low_high 8 _ v h1, low_high 8 _ v h1, show 8 * (j + 1) + s = 8 + (8 * j + s) by omega, Nat.pow_add 2 8 (8 * j + s), Nat.xor_assoc]
      congr 1
      rw [Nat.mul_comm (2 ^ 8) (num l ^^^ _), Nat.mul_comm (2 ^ 8) (num l), Nat.mul_comm (2 ^ 8) (2 ^ (8 * j + s))]
      have sh : ∀ x y : Nat, (x ^^^ y) * 2 ^ 8 = x * 2 ^ 8 ^^^ y * 2 ^ 8 := fun x y => by
        rw [← Nat.shiftLeft_eq, ← Nat.shiftLeft_eq, ← Nat.shiftLeft_eq, Nat.shiftLeft_xor_distrib]
      exact sh _ _

/-- All that bear their check end alike. -/
theorem run_checked (x : List Nat) (le4v : List Nat) (hle : num le4v = goN 0 x) (h4 : le4v.length = 4) (hv : ∀ v ∈ le4v, v < 256) : runN 4294967295 (x ++ le4v) = hK 32 4294967295 := by
  rw [runN_append, runN_num le4v hv, hle, h4]
  unfold goN
  rw [Nat.zero_xor, ← Nat.xor_assoc, Nat.xor_self, Nat.zero_xor]
/-- Two rows of a length that end alike, and that a burst makes of each other, are one. -/
theorem burst_none (p x : List Nat) (hp : ∀ v ∈ p, v < 256) (hx : ∀ v ∈ x, v < 256) (hl : p.length = x.length) (k u : Nat) (hk : k ≤ 8 * p.length) (hu : u < 4294967296)
    (he : num x = num p ^^^ (2 ^ k * u)) (hr : runN 4294967295 p = runN 4294967295 x) : x = p := by
  rw [runN_num p hp, runN_num x hx, ← hl, he] at hr
  have e1 : hK (8 * p.length) (2 ^ k * u) = 0 := by
    rw [← Nat.xor_assoc, hK_xor _ (4294967295 ^^^ num p) (2 ^ k * u)] at hr
    have h := congrArg (hK (8 * p.length) (4294967295 ^^^ num p) ^^^ ·) hr
    simp only [← Nat.xor_assoc, Nat.xor_self, Nat.zero_xor] at h
    exact h.symm
  rw [show 8 * p.length = k + (8 * p.length - k) by omega, hK_add, hK_pow] at e1
  have e2 := hK_zero _ u hu e1
  rw [e2, Nat.mul_zero, Nat.xor_zero] at he
  exact num_inj x p hl.symm hx hp he
end Go.Proofs.YtpighdioomjnmabDoor
