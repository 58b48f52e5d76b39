/-
  Layer 16: the document's example: a merge. Written by an AI agent.
-/
import Derived.Test.YtpighdioomjnmabEdC
namespace Go.Proofs.Ytpighdioomjnmab
open Go.RowKit Go.Shelf
set_option linter.unusedVariables false
set_option linter.unusedSimpArgs false

theorem timeE (L : List Ed) (k : Nat) : (L.getD k default).t = (L.map (·.t)).getD k 0 := by
  rw [List.getD_eq_getElem?_getD, List.getD_eq_getElem?_getD, List.getElem?_map]
  cases L[k]? <;> rfl

theorem shown_row : (mergeE (([1, 5] : List Int).map edAt) (([0, 1, 9] : List Int).map edAt)).map (·.t) = [0, 1, 1, 5, 9] := by decide

set_option maxRecDepth 100000 in
set_option maxHeartbeats 4000000 in
theorem shown16 (w : World) : Calls Try.prog 22 #[] w fun e w' => e = .returned (.bool true) ∧ Keeps (fun _ => False) w w' := by
  go_enter Try.func22, Try.ntmps22
  have k1 : Keeps (fun _ => False) w (w.alloc (.cells #[.int .i64 1, .int .i64 5] 3)) := (Keeps.refl _ _).alloc _
  have A1 := Lib.hid (at_any (w.alloc (.cells #[.int .i64 1, .int .i64 5] 3)) (some ⟨w.heap.size, 0, none⟩) 2 [1, 5] (fun _ => ⟨w.heap.size, 0, rfl, fun k hk => by
    have : k = 0 ∨ k = 1 := by simp at hk; omega
    rcases this with rfl | rfl <;> simp⟩) (by decide))
  have K1 := Lib.hid k1
  clear k1
  go_wp2_with fail
  refine A1.out.mono ?_
  rintro e w2 ⟨C1, c1, rfl, o1, b1, k2⟩
  have k3 := K1.out.trans k2 (fun _ _ h => h)
  have k4 : Keeps (fun _ => False) w2 (w2.alloc (.cells #[.int .i64 0, .int .i64 1, .int .i64 9] 3)) := (Keeps.refl _ _).alloc _
  have A2 := Lib.hid (at_any (w2.alloc (.cells #[.int .i64 0, .int .i64 1, .int .i64 9] 3)) (some ⟨w2.heap.size, 0, none⟩) 3 [0, 1, 9] (fun _ => ⟨w2.heap.size, 0, rfl, fun k hk => by
    have : k = 0 ∨ k = 1 ∨ k = 2 := by simp at hk; omega
    rcases this with rfl | rfl | rfl <;> simp⟩) (by decide))
  have O1 := Lib.hid (own_of o1 k4)
  have K4 := Lib.hid (k3.trans k4 (fun _ _ h => h))
  clear o1 b1 k2 k3 k4 A1 K1
  go_wp2_with fail
  refine A2.out.mono ?_
  rintro e w3 ⟨C2, c2, rfl, o2, b2, k5⟩
  have r1 := own_rdE (own_of O1.out k5) rfl
  have r2 := own_rdE o2 rfl
  have hn1 : C1 = none → ((([1, 5] : List Int).map edAt)).length = 0 := fun e => by
    rcases O1.out.2 with ⟨_, h0⟩ | ⟨g, cap, cur, e1, _⟩
    · exact h0
    · simp only [Value.slice.injEq] at e1
      rw [e1.1] at e
      cases e
  have MC := Lib.hid (merge_any w3 C1 c1 _ r1 hn1 C2 c2 _ r2 (by decide))
  have K5 := Lib.hid (K4.out.trans k5 (fun _ _ h => h))
  clear o2 b2 k5 r1 r2 hn1 A2 O1 K4
  go_wp2_with fail
  refine MC.out.mono ?_
  rintro e w4 ⟨C3, c3, rfl, o3, b3, k6⟩
  obtain ⟨R, hR⟩ : ∃ R : List Ed, R = mergeE (([1, 5] : List Int).map edAt) (([0, 1, 9] : List Int).map edAt) := ⟨_, rfl⟩
  have hRt : R.map (·.t) = [0, 1, 1, 5, 9] := by rw [hR]; exact shown_row
  have hRl : R.length = 5 := by have h := congrArg List.length hRt; simpa using h
  rw [← hR] at o3 ⊢
  rw [hRl] at o3 ⊢
  obtain ⟨b, off, rfl, hc⟩ := own_rdE o3 hRl.symm (by omega)
  have d0 := (hc 0 (by omega)).1
  have d1 := (hc 1 (by omega)).1
  have d2 := (hc 2 (by omega)).1
  have d4 := (hc 4 (by omega)).1
  rw [timeE, hRt] at d0 d1 d2 d4
  have e0 : w4.cell? ⟨b, off, none⟩ = some (.int .i64 0) := d0
  have e1 : w4.cell? ⟨b, off + 5, none⟩ = some (.int .i64 1) := d1
  have e2 : w4.cell? ⟨b, off + 10, none⟩ = some (.int .i64 1) := d2
  have e4 : w4.cell? ⟨b, off + 20, none⟩ = some (.int .i64 9) := d4
  have K6 := Lib.hid (K5.out.trans k6 (fun _ _ h => h))
  clear o3 b3 k6 hc d0 d1 d2 d4 hR hRt hRl MC K5
  go_wp2
  go_ret
  exact ⟨rfl, K6.out⟩

end Go.Proofs.Ytpighdioomjnmab
