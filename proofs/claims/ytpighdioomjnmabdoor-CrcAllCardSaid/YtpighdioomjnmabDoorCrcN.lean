/-
  Layer 20: no two states, and no two rows of a length, have the same check: no Go in sight. Written by an AI agent.
-/
import Derived.Test.YtpighdioomjnmabDoorCrcM
namespace Go.Proofs.YtpighdioomjnmabDoor

/-- The highest four bits of the table's numbers tell which it is. -/
theorem tab_top : ∀ i, i < 16 → ∀ j, j < 16 → tabN i / 268435456 = tabN j / 268435456 → i = j := by decide +kernel
theorem xor_div28 (a b : Nat) : (a ^^^ b) / 268435456 = (a / 268435456) ^^^ (b / 268435456) := Nat.xor_div_two_pow (n := 28)
theorem halfN_inj {a b : Nat} (ha : a < 4294967296) (hb : b < 4294967296) (h : halfN a = halfN b) : a = b := by
  unfold halfN at h
  have h1 := congrArg (· / 268435456) h
  simp only [xor_div28] at h1
  rw [show a / 16 / 268435456 = 0 by omega, show b / 16 / 268435456 = 0 by omega, Nat.zero_xor, Nat.zero_xor] at h1
  have h2 := tab_top (a % 16) (by omega) (b % 16) (by omega) h1
  rw [h2] at h
  have h3 := congrArg (· ^^^ tabN (b % 16)) h
  simp only [Nat.xor_assoc, Nat.xor_self, Nat.xor_zero] at h3
  omega
theorem xor_cancel {a b c : Nat} (h : a ^^^ c = b ^^^ c) : a = b := by
  have h3 := congrArg (· ^^^ c) h
  simpa only [Nat.xor_assoc, Nat.xor_self, Nat.xor_zero] using h3
theorem stepN_inj {a b v : Nat} (ha : a < 4294967296) (hb : b < 4294967296) (hv : v < 256) (h : stepN a v = stepN b v) : a = b := by
  unfold stepN at h
  have la := xor_lt ha (show v < 4294967296 by omega)
  have lb := xor_lt hb (show v < 4294967296 by omega)
  exact xor_cancel (halfN_inj la lb (halfN_inj (halfN_lt _ la) (halfN_lt _ lb) h))
theorem runN_inj (l : List Nat) (hl : ∀ v ∈ l, v < 256) : ∀ a b, a < 4294967296 → b < 4294967296 → runN a l = runN b l → a = b := by
  induction l with
  | nil => intro a b _ _ h; exact h
  | cons v l ih =>
    intro a b ha hb h
    have hv := hl v (List.mem_cons_self ..)
    exact stepN_inj ha hb hv (ih (fun x hx => hl x (List.mem_cons_of_mem _ hx)) _ _ (stepN_lt a v ha hv) (stepN_lt b v hb hv) h)
/-- A nought ahead is told. -/
theorem goN_ahead (l : List Nat) (hl : ∀ v ∈ l, v < 256) : goN 0 (0 :: l) ≠ goN 0 l := by
  intro h
  unfold goN at h
  have h1 := xor_cancel h
  have h2 := runN_inj l hl (stepN (0 ^^^ 4294967295) 0) (0 ^^^ 4294967295) (stepN_lt _ _ (by decide) (by omega)) (by decide) h1
  have h3 : stepN (0 ^^^ 4294967295) 0 ≠ (0 ^^^ 4294967295) := by decide +kernel
  exact h3 h2
end Go.Proofs.YtpighdioomjnmabDoor
