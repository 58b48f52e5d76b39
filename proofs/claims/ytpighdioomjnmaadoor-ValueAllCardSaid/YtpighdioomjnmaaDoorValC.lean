/-
  Layer 5: contracts of texts, and of what is the same. Written by an AI agent.
-/
import Derived.Test.YtpighdioomjnmaaDoorValB
import Derived.OpenShut
import Derived.IntWalk
namespace Go.Proofs.YtpighdioomjnmaaDoor.textsof
open Go.RowKit

set_option maxHeartbeats 400000 in
theorem text_any (s : ByteArray) (w : World) :
    Calls Tryd.prog 19 #[.string s] w fun e w' => e = .returned (.agg #[.int .i64 3, .int .i64 0, .string s]) ∧ Below w.heap.size w w' := by
  go_enter Tryd.func19, Tryd.ntmps19
  go_wp2
  exact bodyPost_ret (v := .agg #[.int .i64 3, .int .i64 0, .string s]) (by simp [results, Tryd.results19, go_sem]) rfl ⟨rfl, (Below.refl _ _).alloc (Nat.le_refl _) _⟩

set_option maxHeartbeats 400000 in
theorem texts_plus (s t : ByteArray) (hs : s.size ≤ 60) (ht : t.size ≤ 60) (hl : s.size + t.size ≤ 40) (w : World) :
    Calls Tryd.prog 33 #[.string { data := #[43] }, .string s, .string t] w fun e w' => e = .returned (.tuple #[.agg #[.int .i64 3, .int .i64 0, .string (s ++ t)], .int .i64 0]) ∧ Below w.heap.size w w' := by
  have h1 : IntKind.i64.wrap ((s.size : Int) + (t.size : Int)) = (s.size : Int) + (t.size : Int) := by rw [IntWalk.i64_in _ (by omega)]
  have h2 : ¬ (40 : Int) < (s.size : Int) + (t.size : Int) := by omega
  go_enter Tryd.func33, Tryd.ntmps33
  go_wp2_with (go_at_call 19; refine (text_any _ _).mono ?_; rintro e w1 ⟨rfl, hb1⟩; obtain ⟨hc1, hf1⟩ := bcell hb1; have hz1 := hb1.size)
  exact bodyPost_ret (v := .tuple #[.agg #[.int .i64 3, .int .i64 0, .string (s ++ t)], .int .i64 0]) (by simp [results, Tryd.results33, go_sem, hc1]) rfl ⟨rfl, ((((((Below.refl _ _).alloc (Nat.le_refl _) _).trans (hb1.mono (by simp))).setCell (by simp) _).setCell (by simp) _).setCell (by simp) _)⟩

set_option maxHeartbeats 400000 in
theorem bin_plus (s t : ByteArray) (hs : s.size ≤ 60) (ht : t.size ≤ 60) (hl : s.size + t.size ≤ 40) (w : World) :
    Calls Tryd.prog 13 #[.string { data := #[43] }, .agg #[.int .i64 3, .int .i64 0, .string s], .agg #[.int .i64 3, .int .i64 0, .string t]] w fun e w' => e = .returned (.tuple #[.agg #[.int .i64 3, .int .i64 0, .string (s ++ t)], .int .i64 0]) ∧ Below w.heap.size w w' := by
  go_enter Tryd.func13, Tryd.ntmps13
  go_wp2_with (go_at_call 33; refine (texts_plus s t hs ht hl _).mono ?_; rintro e w1 ⟨rfl, hb1⟩; obtain ⟨hc1, hf1⟩ := bcell hb1; have hz1 := hb1.size)
  exact bodyPost_ret (v := .tuple #[.agg #[.int .i64 3, .int .i64 0, .string (s ++ t)], .int .i64 0]) (by simp [results, Tryd.results13, go_sem, hc1]) rfl ⟨rfl, (((((((Below.refl _ _).alloc (Nat.le_refl _) _).alloc (by simp) _).alloc (by simp; omega) _).trans (hb1.mono (by simp; omega))).setCell (by simp; omega) _).setCell (by simp; omega) _).setCell (by simp; omega) _⟩

set_option maxHeartbeats 400000 in
theorem texts_long (s t : ByteArray) (hs : s.size ≤ 60) (ht : t.size ≤ 60) (hl : 40 < s.size + t.size) (w : World) :
    Calls Tryd.prog 33 #[.string { data := #[43] }, .string s, .string t] w fun e w' => e = .returned (.tuple #[.agg #[.int .i64 0, .int .i64 0, .string { data := #[] }], .int .i64 6]) ∧ Below w.heap.size w w' := by
  have h1 : IntKind.i64.wrap ((s.size : Int) + (t.size : Int)) = (s.size : Int) + (t.size : Int) := by rw [IntWalk.i64_in _ (by omega)]
  have h2 : (40 : Int) < (s.size : Int) + (t.size : Int) := by omega
  go_enter Tryd.func33, Tryd.ntmps33
  go_wp2
  exact bodyPost_ret (v := .tuple #[.agg #[.int .i64 0, .int .i64 0, .string { data := #[] }], .int .i64 6]) (by simp [results, Tryd.results33, go_sem]) rfl ⟨rfl, (Below.refl _ _).alloc (Nat.le_refl _) _⟩

set_option maxHeartbeats 400000 in
theorem bin_long (s t : ByteArray) (hs : s.size ≤ 60) (ht : t.size ≤ 60) (hl : 40 < s.size + t.size) (w : World) :
    Calls Tryd.prog 13 #[.string { data := #[43] }, .agg #[.int .i64 3, .int .i64 0, .string s], .agg #[.int .i64 3, .int .i64 0, .string t]] w fun e w' => e = .returned (.tuple #[.agg #[.int .i64 0, .int .i64 0, .string { data := #[] }], .int .i64 6]) ∧ Below w.heap.size w w' := by
  go_enter Tryd.func13, Tryd.ntmps13
  go_wp2_with (go_at_call 33; refine (texts_long s t hs ht hl _).mono ?_; rintro e w1 ⟨rfl, hb1⟩; obtain ⟨hc1, hf1⟩ := bcell hb1; have hz1 := hb1.size)
  exact bodyPost_ret (v := .tuple #[.agg #[.int .i64 0, .int .i64 0, .string { data := #[] }], .int .i64 6]) (by simp [results, Tryd.results13, go_sem, hc1]) rfl ⟨rfl, (((((((Below.refl _ _).alloc (Nat.le_refl _) _).alloc (by simp) _).alloc (by simp; omega) _).trans (hb1.mono (by simp; omega))).setCell (by simp; omega) _).setCell (by simp; omega) _).setCell (by simp; omega) _⟩
end Go.Proofs.YtpighdioomjnmaaDoor.textsof
