/-
  Layer 20: the check of bytes on natural numbers: no Go in sight. Written by an AI agent.
-/
import Derived.KernelRfl
namespace Go.Proofs.YtpighdioomjnmabDoor

/-- The table of the sixteen numbers. -/
def tabL : List Nat := [0, 498536548, 997073096, 651767980, 1994146192, 1802195444, 1303535960, 1342533948, 3988292384, 4027552580, 3604390888, 3412177804, 2607071920, 2262029012, 2685067896, 3183342108]
def tabN (i : Nat) : Nat := tabL.getD i 0
/-- Half a byte; a byte; bytes. -/
def halfN (a : Nat) : Nat := (a / 16) ^^^ tabN (a % 16)
def stepN (n v : Nat) : Nat := halfN (halfN (n ^^^ v))
def runN (r : Nat) (l : List Nat) : Nat := l.foldl stepN r
def goN (c : Nat) (l : List Nat) : Nat := runN (c ^^^ 4294967295) l ^^^ 4294967295

theorem tabN_lt (i : Nat) : tabN i < 4294967296 := by
  unfold tabN
  by_cases h : i < 16
  · have : ∀ i, i < 16 → tabL.getD i 0 < 4294967296 := by decide
    exact this i h
  · rw [List.getD_eq_getElem?_getD, List.getElem?_eq_none (by simp [tabL]; omega)]; decide
theorem getD_at (l : List Nat) {k : Nat} (h : k < l.length) : l.getD k 0 = l[k] := by rw [List.getD_eq_getElem?_getD, List.getElem?_eq_getElem h]; rfl
theorem xor_lt {a b : Nat} (ha : a < 4294967296) (hb : b < 4294967296) : a ^^^ b < 4294967296 := Nat.xor_lt_two_pow (n := 32) ha hb
theorem halfN_lt (a : Nat) (h : a < 4294967296) : halfN a < 4294967296 := xor_lt (by omega) (tabN_lt _)
theorem stepN_lt (n v : Nat) (h : n < 4294967296) (hv : v < 256) : stepN n v < 4294967296 := halfN_lt _ (halfN_lt _ (xor_lt h (by omega)))
theorem runN_lt (l : List Nat) (hl : ∀ v ∈ l, v < 256) : ∀ r, r < 4294967296 → runN r l < 4294967296 := by
  induction l with
  | nil => intro r h; exact h
  | cons v l ih =>
    intro r h
    exact ih (fun x hx => hl x (List.mem_cons_of_mem _ hx)) _ (stepN_lt r v h (hl v (List.mem_cons_self ..)))
theorem goN_lt (c : Nat) (l : List Nat) (hc : c < 4294967296) (hl : ∀ v ∈ l, v < 256) : goN c l < 4294967296 := xor_lt (runN_lt l hl _ (xor_lt hc (by omega))) (by omega)
theorem runN_append (r : Nat) (a b : List Nat) : runN r (a ++ b) = runN (runN r a) b := List.foldl_append ..
theorem runN_snoc (r : Nat) (a : List Nat) (v : Nat) : runN r (a ++ [v]) = stepN (runN r a) v := by rw [runN_append]; rfl
theorem goN_nil (c : Nat) : goN c [] = c := by
  show (c ^^^ 4294967295) ^^^ 4294967295 = c
  rw [Nat.xor_assoc, Nat.xor_self, Nat.xor_zero]
theorem goN_append (c : Nat) (a b : List Nat) : goN c (a ++ b) = goN (goN c a) b := by
  unfold goN
  rw [runN_append, Nat.xor_assoc, Nat.xor_self, Nat.xor_zero]
theorem goN_shown : goN 0 [49, 50, 51, 52, 53, 54, 55, 56, 57] = 3421780262 := by decide +kernel
end Go.Proofs.YtpighdioomjnmabDoor
