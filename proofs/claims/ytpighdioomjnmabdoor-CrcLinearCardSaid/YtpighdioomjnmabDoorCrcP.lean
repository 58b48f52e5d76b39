/-
  Layer 20: rows that are XORed byte by byte: no Go in sight. Written by an AI agent.
-/
import Derived.Test.YtpighdioomjnmabDoorCrcO
namespace Go.Proofs.YtpighdioomjnmabDoor

def zipX (a b : List Nat) : List Nat := List.zipWith (· ^^^ ·) a b
theorem zipX_lt (a : List Nat) : ∀ b, (∀ v ∈ a, v < 256) → (∀ v ∈ b, v < 256) → ∀ v ∈ zipX a b, v < 256 := by
  induction a with
  | nil => intro b _ _ v hv; simp [zipX] at hv
  | cons x a ih =>
    intro b ha hb v hv
    rcases b with _ | ⟨y, b⟩
    · simp [zipX] at hv
    · simp only [zipX, List.zipWith_cons_cons, List.mem_cons] at hv
      rcases hv with rfl | hv
      · exact Nat.xor_lt_two_pow (n := 8) (ha x (List.mem_cons_self ..)) (hb y (List.mem_cons_self ..))
      · exact ih b (fun z hz => ha z (List.mem_cons_of_mem _ hz)) (fun z hz => hb z (List.mem_cons_of_mem _ hz)) v hv
theorem zipX_num (a : List Nat) : ∀ b, a.length = b.length → (∀ v ∈ a, v < 256) → (∀ v ∈ b, v < 256) → num (zipX a b) = num a ^^^ num b := by
  induction a with
  | nil => intro b h _ _; rw [List.eq_nil_of_length_eq_zero h.symm]; rfl
  | cons x a ih =>
    intro b h ha hb
    rcases b with _ | ⟨y, b⟩
    · simp at h
    · have hx := ha x (List.mem_cons_self ..)
      have hy := hb y (List.mem_cons_self ..)
      have hxy : x ^^^ y < 2 ^ 8 := Nat.xor_lt_two_pow hx hy
      have e := ih b (by simpa using h) (fun z hz => ha z (List.mem_cons_of_mem _ hz)) (fun z hz => hb z (List.mem_cons_of_mem _ hz))
      show (x ^^^ y) + 256 * num (zipX a b) = (x + 256 * num a) ^^^ (y + 256 * num b)
      rw [e, show (256 : Nat) = 2 ^ 8 from rfl, low_high 8 _ _ hxy, low_high 8 _ x hx, low_high 8 _ y hy]
      have sh : 2 ^ 8 * (num a ^^^ num b) = 2 ^ 8 * num a ^^^ 2 ^ 8 * num b := by
        rw [Nat.mul_comm (2 ^ 8) (num a ^^^ num b), Nat.mul_comm (2 ^ 8) (num a), Nat.mul_comm (2 ^ 8) (num b), ← Nat.shiftLeft_eq, ← Nat.shiftLeft_eq, ← Nat.shiftLeft_eq, Nat.shiftLeft_xor_distrib]
      rw [sh, Nat.xor_assoc, Nat.xor_assoc, ← Nat.xor_assoc y, Nat.xor_comm y (2 ^ 8 * num a), Nat.xor_assoc (2 ^ 8 * num a)]
theorem num_noughts (n : Nat) : num (List.replicate n 0) = 0 := by
  induction n with
  | zero => rfl
  | succ n ih => show 0 + 256 * num (List.replicate n 0) = 0; omega
theorem goN_num (l : List Nat) (hl : ∀ v ∈ l, v < 256) : goN 0 l = hK (8 * l.length) (4294967295 ^^^ num l) ^^^ 4294967295 := by
  unfold goN
  rw [Nat.zero_xor, runN_num l hl]
/-- The checks of two rows, and of what they make, go with each other. -/
theorem goN_linear (a b : List Nat) (h : a.length = b.length) (ha : ∀ v ∈ a, v < 256) (hb : ∀ v ∈ b, v < 256) :
    goN 0 a ^^^ goN 0 b ^^^ goN 0 (zipX a b) = goN 0 (List.replicate a.length 0) := by
  have hz : (zipX a b).length = a.length := by simp [zipX, h]
  rw [goN_num a ha, goN_num b hb, goN_num _ (zipX_lt a b ha hb), goN_num _ (by simp), hz, ← h, zipX_num a b h ha hb, num_noughts, List.length_replicate, Nat.xor_zero]
  simp only [hK_xor]
  generalize hK (8 * a.length) 4294967295 = i
  generalize hK (8 * a.length) (num a) = p
  generalize hK (8 * a.length) (num b) = q
  apply Nat.eq_of_testBit_eq
  intro j
  simp only [Nat.testBit_xor]
  cases i.testBit j <;> cases p.testBit j <;> cases q.testBit j <;> cases (4294967295 : Nat).testBit j <;> rfl
end Go.Proofs.YtpighdioomjnmabDoor
