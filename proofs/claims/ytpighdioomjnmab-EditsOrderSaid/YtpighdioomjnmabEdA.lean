/-
  Layer 16: edits as data, and as cells; what an insert, a merge, a cut make of rows of them. Written by an AI agent.
-/
import Derived.Test.YtpighdioomjnmabKpW
import Derived.Test.YtpighdioomjnmabKpD
namespace Go.Proofs.Ytpighdioomjnmab
open Go.RowKit Go.Shelf
set_option linter.unusedVariables false
set_option linter.unusedSimpArgs false

/-- An edit: a time, a name, and a value: its type, number, text. -/
structure Ed where
  t : Int
  nm : ByteArray
  ty : Int
  n : Int
  s : ByteArray

instance : Inhabited Ed := ⟨⟨0, ⟨#[]⟩, 0, 0, ⟨#[]⟩⟩⟩

def Ed.cells (e : Ed) : List Value := [.int .i64 e.t, .string e.nm, .int .i64 e.ty, .int .i64 e.n, .string e.s]
def flatE (L : List Ed) : List Value := L.flatMap Ed.cells

theorem flatE_cons (a : Ed) (L : List Ed) : flatE (a :: L) = a.cells ++ flatE L := by simp [flatE]
theorem flatE_append (L M : List Ed) : flatE (L ++ M) = flatE L ++ flatE M := by simp [flatE]
theorem flatE_length (L : List Ed) : (flatE L).length = L.length * 5 := by
  induction L with
  | nil => rfl
  | cons a L ih => rw [flatE_cons, List.length_append, ih, List.length_cons]; show 5 + _ = _; omega
theorem flatE_one (L : List Ed) : ∀ u ∈ flatE L, u.oneCell' = true := by
  intro u hu
  simp only [flatE, List.mem_flatMap] at hu
  obtain ⟨a, _, hu⟩ := hu
  simp only [Ed.cells, List.mem_cons, List.not_mem_nil, or_false] at hu
  rcases hu with rfl | rfl | rfl | rfl | rfl <;> rfl
theorem flatE_at (L : List Ed) (i : Nat) (h : i < L.length) : (flatE L)[i * 5]? = some (.int .i64 (L.getD i default).t) ∧ (flatE L)[i * 5 + 1]? = some (.string (L.getD i default).nm) ∧
    (flatE L)[i * 5 + 2]? = some (.int .i64 (L.getD i default).ty) ∧ (flatE L)[i * 5 + 3]? = some (.int .i64 (L.getD i default).n) ∧ (flatE L)[i * 5 + 4]? = some (.string (L.getD i default).s) := by
  induction L generalizing i with
  | nil => exact absurd h (Nat.not_lt_zero _)
  | cons a L ih =>
    rw [flatE_cons]
    cases i with
    | zero => exact ⟨rfl, rfl, rfl, rfl, rfl⟩
    | succ i =>
      have h2 := ih i (by simpa using h)
      rw [show (i + 1) * 5 = i * 5 + 1 + 1 + 1 + 1 + 1 by omega]
      exact h2
theorem flatE_take (L : List Ed) (r : Nat) (h : r ≤ L.length) : (flatE L).take (r * 5) = flatE (L.take r) := by
  have e : flatE L = flatE (L.take r) ++ flatE (L.drop r) := by rw [← flatE_append, List.take_append_drop]
  rw [e]
  exact List.take_left' (by rw [flatE_length, List.length_take]; omega)
theorem flatE_drop (L : List Ed) (r : Nat) (h : r ≤ L.length) : (flatE L).drop (r * 5) = flatE (L.drop r) := by
  have e : flatE L = flatE (L.take r) ++ flatE (L.drop r) := by rw [← flatE_append, List.take_append_drop]
  rw [e]
  exact List.drop_left' (by rw [flatE_length, List.length_take]; omega)

theorem getE_lt {L : List Ed} {i : Nat} (h : i < L.length) : L.getD i default = L[i] := by
  rw [List.getD_eq_getElem?_getD, List.getElem?_eq_getElem h]; rfl
theorem takeE_succ {L : List Ed} {k : Nat} (h : k < L.length) : L.take (k + 1) = L.take k ++ [L.getD k default] := by
  rw [List.take_succ_eq_append_getElem h, getE_lt h]

/-- The place of the first edit behind a time. -/
def plE (L : List Ed) (t : Int) : Nat := L.findIdx (fun y => decide (t < y.t))
theorem plE_le (L : List Ed) (t : Int) : plE L t ≤ L.length := List.findIdx_le_length
theorem plE_low {L : List Ed} {t : Int} {i : Nat} (h : i < plE L t) : (L.getD i default).t ≤ t := by
  have hl : i < L.length := Nat.lt_of_lt_of_le h (plE_le L t)
  have := List.not_of_lt_findIdx h
  rw [getE_lt hl]
  simpa using this
theorem plE_at {L : List Ed} {t : Int} (h : plE L t < L.length) : t < (L.getD (plE L t) default).t := by
  have := List.findIdx_getElem (w := h)
  rw [getE_lt h]
  simp only [decide_eq_true_eq] at this
  exact this

/-- An edit laid in behind those of its time and of times ahead. -/
def insE (L : List Ed) (x : Ed) : List Ed := L.take (plE L x.t) ++ x :: L.drop (plE L x.t)
def mergeE (L M : List Ed) : List Ed := M.foldl insE L
def uptoE (L : List Ed) (t : Int) : List Ed := L.filter (fun y => decide (y.t ≤ t))

theorem insE_length (L : List Ed) (x : Ed) : (insE L x).length = L.length + 1 := by
  unfold insE
  have := plE_le L x.t
  rw [List.length_append, List.length_cons, List.length_take, List.length_drop]
  omega
theorem mergeE_length (L M : List Ed) : (mergeE L M).length = L.length + M.length := by
  unfold mergeE
  induction M generalizing L with
  | nil => rfl
  | cons a M ih => rw [List.foldl_cons, ih, insE_length, List.length_cons]; omega
theorem flatE_ins (L : List Ed) (x : Ed) : (flatE L).take (plE L x.t * 5) ++ x.cells ++ (flatE L).drop (plE L x.t * 5) = flatE (insE L x) := by
  unfold insE
  have := plE_le L x.t
  rw [flatE_take L _ this, flatE_drop L _ this, flatE_append, flatE_cons, List.append_assoc]
theorem mergeE_take (L M : List Ed) (k : Nat) (h : k < M.length) : mergeE L (M.take (k + 1)) = insE (mergeE L (M.take k)) (M.getD k default) := by
  unfold mergeE
  rw [takeE_succ h, List.foldl_append]
  rfl
theorem uptoE_take (L : List Ed) (t : Int) (k : Nat) (h : k < L.length) : uptoE (L.take (k + 1)) t = if (L.getD k default).t ≤ t then uptoE (L.take k) t ++ [L.getD k default] else uptoE (L.take k) t := by
  unfold uptoE
  rw [takeE_succ h, List.filter_append]
  split
  · rename_i h1
    rw [List.filter_cons_of_pos (by simpa using h1)]; rfl
  · rename_i h1
    rw [List.filter_cons_of_neg (by simpa using h1)]; simp
theorem uptoE_le (L : List Ed) (t : Int) : (uptoE L t).length ≤ L.length := List.length_filter_le _ _

/-- What the document's insert has made of the first k. -/
def refE (L : List Ed) (x : Ed) (k : Nat) : List Ed := if k ≤ plE L x.t then L.take k else L.take (plE L x.t) ++ x :: (L.take k).drop (plE L x.t)
theorem refE_low {L : List Ed} {x : Ed} {k : Nat} (h : k < plE L x.t) : refE L x (k + 1) = refE L x k ++ [L.getD k default] := by
  have := plE_le L x.t
  unfold refE
  rw [if_pos (by omega), if_pos (by omega), takeE_succ (by omega)]
theorem refE_at {L : List Ed} {x : Ed} (h : plE L x.t < L.length) : refE L x (plE L x.t + 1) = refE L x (plE L x.t) ++ [x] ++ [L.getD (plE L x.t) default] := by
  unfold refE
  rw [if_neg (by omega), if_pos (Nat.le_refl _), takeE_succ h, List.drop_left' (by rw [List.length_take]; omega), List.append_assoc]
  rfl
theorem refE_high {L : List Ed} {x : Ed} {k : Nat} (h : plE L x.t < k) (hk : k < L.length) : refE L x (k + 1) = refE L x k ++ [L.getD k default] := by
  unfold refE
  rw [if_neg (by omega), if_neg (by omega), takeE_succ hk, List.drop_append_of_le_length (by rw [List.length_take]; omega), List.append_assoc, List.cons_append]
theorem refE_all (L : List Ed) (x : Ed) : (if L.length ≤ plE L x.t then refE L x L.length ++ [x] else refE L x L.length) = insE L x := by
  have h := plE_le L x.t
  unfold refE insE
  by_cases h2 : L.length ≤ plE L x.t
  · have e : plE L x.t = L.length := by omega
    rw [if_pos h2, if_pos h2, e, List.take_length, List.drop_length]
  · rw [if_neg h2, if_neg h2, List.take_length]

end Go.Proofs.Ytpighdioomjnmab
