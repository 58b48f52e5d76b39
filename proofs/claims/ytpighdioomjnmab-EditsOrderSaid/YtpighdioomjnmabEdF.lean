/-
  Layer 16: whether there can be such an edit, by the code and by the document. Written by an AI agent.
-/
import Derived.Test.YtpighdioomjnmabEdM
import Derived.Test.YtpighdioomjnmabEdC
namespace Go.Proofs.Ytpighdioomjnmab
open Go.RowKit Go.Shelf
set_option linter.unusedVariables false
set_option linter.unusedSimpArgs false

/-- There can be such an edit. -/
def OkE (t : Int) (nm : ByteArray) (ty n : Int) (s : ByteArray) : Prop := 0 ≤ t ∧ t ≤ 200 ∧ 1 ≤ nm.size ∧ nm.size ≤ 8 ∧ OkV ty n s ∧ ¬ ty = 4

theorem empty_size (s : ByteArray) : s.toList.isEmpty = decide (s.size = 0) := by
  rw [Lib.toList_data]
  obtain ⟨d⟩ := s
  rcases d with ⟨l⟩
  cases l <;> simp [ByteArray.size]

abbrev MayE (f : Nat) (t : Int) (nm : ByteArray) (ty n : Int) (s : ByteArray) (b : Bool) : Prop := ∀ w, Calls Try.prog f #[.agg #[.int .i64 t, .string nm, .int .i64 ty, .int .i64 n, .string s]] w fun e w' => e = .returned (.bool b) ∧ Keeps (fun _ => False) w w'

set_option maxRecDepth 100000 in
set_option maxHeartbeats 4000000 in
theorem emay_all (t : Int) (nm : ByteArray) (ty n : Int) (s : ByteArray) : ∃ b : Bool, (b = true ↔ OkE t nm ty n s) ∧ MayE 24 t nm ty n s b := by
  obtain ⟨bv, hV, hC, _⟩ := may_same ty n s
  by_cases h1 : 0 ≤ t
  · have d1 : decide (0 ≤ t) = true := decide_eq_true h1
    by_cases h2 : t ≤ 200
    · have d2 : decide (t ≤ 200) = true := decide_eq_true h2
      by_cases h3 : 1 ≤ nm.size
      · have d3 : nm.toList.isEmpty = false := by rw [empty_size]; exact decide_eq_false (by omega)
        have d3b : decide (1 ≤ (nm.size : Int)) = true := decide_eq_true (by omega)
        have d3c : 1 ≤ (nm.size : Int) := by omega
        by_cases h4 : nm.size ≤ 8
        · have d4 : decide ((nm.size : Int) ≤ 8) = true := decide_eq_true (by omega)
          have d4b : (nm.size : Int) ≤ 8 := by omega
          cases bv with
          | false =>
            refine ⟨false, ⟨(fun h => by cases h), fun h => by obtain ⟨q1, q2, q3, q4, q5, q6⟩ := h; first | (exfalso; omega) | exact absurd (hV.2 q5) (by decide) | exact absurd rfl q6⟩, fun w => ?_⟩
            have k0 : Keeps (fun _ => False) w (w.alloc (.cells #[.int .i64 t, .string nm, .int .i64 ty, .int .i64 n, .string s] 49)) := (Keeps.refl _ _).alloc _
            have K0 := Lib.hid k0
            have VC := Lib.hid (hC (w.alloc (.cells #[.int .i64 t, .string nm, .int .i64 ty, .int .i64 n, .string s] 49)))
            clear k0 hC hV
            go_enter Try.func24, Try.ntmps24
            go_wp2_with fail
            refine VC.out.mono ?_
            rintro e w2 ⟨rfl, hb⟩
            have K2 := Lib.hid (K0.out.trans (Keeps.ofBelow (S := fun _ => False) hb) (fun _ _ h => h))
            have e0 : w2.cell? ⟨w.heap.size, 0, none⟩ = some (.int .i64 t) := (hb.cell (p := ⟨w.heap.size, 0, none⟩) (by simp)).trans (by simp)
            have e1 : w2.cell? ⟨w.heap.size, 1, none⟩ = some (.string nm) := (hb.cell (p := ⟨w.heap.size, 1, none⟩) (by simp)).trans (by simp)
            have e2 : w2.cell? ⟨w.heap.size, 2, none⟩ = some (.int .i64 ty) := (hb.cell (p := ⟨w.heap.size, 2, none⟩) (by simp)).trans (by simp)
            clear hb
            go_wp2
            go_ret
            exact ⟨rfl, K2.out⟩
          | true =>
            by_cases h6 : ty = 4
            · subst h6
              refine ⟨false, ⟨(fun h => by cases h), fun h => by obtain ⟨q1, q2, q3, q4, q5, q6⟩ := h; first | (exfalso; omega) | exact absurd (hV.2 q5) (by decide) | exact absurd rfl q6⟩, fun w => ?_⟩
              have k0 : Keeps (fun _ => False) w (w.alloc (.cells #[.int .i64 t, .string nm, .int .i64 4, .int .i64 n, .string s] 49)) := (Keeps.refl _ _).alloc _
              have K0 := Lib.hid k0
              have VC := Lib.hid (hC (w.alloc (.cells #[.int .i64 t, .string nm, .int .i64 4, .int .i64 n, .string s] 49)))
              clear k0 hC hV
              go_enter Try.func24, Try.ntmps24
              go_wp2_with fail
              refine VC.out.mono ?_
              rintro e w2 ⟨rfl, hb⟩
              have K2 := Lib.hid (K0.out.trans (Keeps.ofBelow (S := fun _ => False) hb) (fun _ _ h => h))
              have e0 : w2.cell? ⟨w.heap.size, 0, none⟩ = some (.int .i64 t) := (hb.cell (p := ⟨w.heap.size, 0, none⟩) (by simp)).trans (by simp)
              have e1 : w2.cell? ⟨w.heap.size, 1, none⟩ = some (.string nm) := (hb.cell (p := ⟨w.heap.size, 1, none⟩) (by simp)).trans (by simp)
              have e2 : w2.cell? ⟨w.heap.size, 2, none⟩ = some (.int .i64 4) := (hb.cell (p := ⟨w.heap.size, 2, none⟩) (by simp)).trans (by simp)
              clear hb
              go_wp2
              go_ret
              exact ⟨rfl, K2.out⟩
            · have d6 : (ty == 4) = false := by simpa using h6
              have d6n : (ty != 4) = true := by simpa using h6
              refine ⟨true, ⟨fun _ => ⟨h1, h2, h3, h4, hV.1 rfl, h6⟩, fun _ => rfl⟩, fun w => ?_⟩
              have k0 : Keeps (fun _ => False) w (w.alloc (.cells #[.int .i64 t, .string nm, .int .i64 ty, .int .i64 n, .string s] 49)) := (Keeps.refl _ _).alloc _
              have K0 := Lib.hid k0
              have VC := Lib.hid (hC (w.alloc (.cells #[.int .i64 t, .string nm, .int .i64 ty, .int .i64 n, .string s] 49)))
              clear k0 hC hV
              go_enter Try.func24, Try.ntmps24
              go_wp2_with fail
              refine VC.out.mono ?_
              rintro e w2 ⟨rfl, hb⟩
              have K2 := Lib.hid (K0.out.trans (Keeps.ofBelow (S := fun _ => False) hb) (fun _ _ h => h))
              have e0 : w2.cell? ⟨w.heap.size, 0, none⟩ = some (.int .i64 t) := (hb.cell (p := ⟨w.heap.size, 0, none⟩) (by simp)).trans (by simp)
              have e1 : w2.cell? ⟨w.heap.size, 1, none⟩ = some (.string nm) := (hb.cell (p := ⟨w.heap.size, 1, none⟩) (by simp)).trans (by simp)
              have e2 : w2.cell? ⟨w.heap.size, 2, none⟩ = some (.int .i64 ty) := (hb.cell (p := ⟨w.heap.size, 2, none⟩) (by simp)).trans (by simp)
              clear hb
              go_wp2
              go_ret
              exact ⟨rfl, K2.out⟩
        · have d4 : decide ((nm.size : Int) ≤ 8) = false := decide_eq_false (by omega)
          have d4b : ¬ (nm.size : Int) ≤ 8 := by omega
          refine ⟨false, ⟨(fun h => by cases h), fun h => by obtain ⟨q1, q2, q3, q4, q5, q6⟩ := h; first | (exfalso; omega) | exact absurd (hV.2 q5) (by decide) | exact absurd rfl q6⟩, fun w => ?_⟩
          have k0 : Keeps (fun _ => False) w (w.alloc (.cells #[.int .i64 t, .string nm, .int .i64 ty, .int .i64 n, .string s] 49)) := (Keeps.refl _ _).alloc _
          have K0 := Lib.hid k0
          clear k0 hC hV
          go_enter Try.func24, Try.ntmps24
          go_wp2
          go_ret
          exact ⟨rfl, K0.out⟩
      · have d3 : nm.toList.isEmpty = true := by rw [empty_size]; exact decide_eq_true (by omega)
        have d3b : decide (1 ≤ (nm.size : Int)) = false := decide_eq_false (by omega)
        have d3c : ¬ 1 ≤ (nm.size : Int) := by omega
        refine ⟨false, ⟨(fun h => by cases h), fun h => by obtain ⟨q1, q2, q3, q4, q5, q6⟩ := h; first | (exfalso; omega) | exact absurd (hV.2 q5) (by decide) | exact absurd rfl q6⟩, fun w => ?_⟩
        have k0 : Keeps (fun _ => False) w (w.alloc (.cells #[.int .i64 t, .string nm, .int .i64 ty, .int .i64 n, .string s] 49)) := (Keeps.refl _ _).alloc _
        have K0 := Lib.hid k0
        clear k0 hC hV
        go_enter Try.func24, Try.ntmps24
        go_wp2
        go_ret
        exact ⟨rfl, K0.out⟩
    · have d2 : decide (t ≤ 200) = false := decide_eq_false h2
      refine ⟨false, ⟨(fun h => by cases h), fun h => by obtain ⟨q1, q2, q3, q4, q5, q6⟩ := h; first | (exfalso; omega) | exact absurd (hV.2 q5) (by decide) | exact absurd rfl q6⟩, fun w => ?_⟩
      have k0 : Keeps (fun _ => False) w (w.alloc (.cells #[.int .i64 t, .string nm, .int .i64 ty, .int .i64 n, .string s] 49)) := (Keeps.refl _ _).alloc _
      have K0 := Lib.hid k0
      clear k0 hC hV
      go_enter Try.func24, Try.ntmps24
      go_wp2
      go_ret
      exact ⟨rfl, K0.out⟩
  · have d1 : decide (0 ≤ t) = false := decide_eq_false h1
    refine ⟨false, ⟨(fun h => by cases h), fun h => by obtain ⟨q1, q2, q3, q4, q5, q6⟩ := h; first | (exfalso; omega) | exact absurd (hV.2 q5) (by decide) | exact absurd rfl q6⟩, fun w => ?_⟩
    have k0 : Keeps (fun _ => False) w (w.alloc (.cells #[.int .i64 t, .string nm, .int .i64 ty, .int .i64 n, .string s] 49)) := (Keeps.refl _ _).alloc _
    have K0 := Lib.hid k0
    clear k0 hC hV
    go_enter Try.func24, Try.ntmps24
    go_wp2
    go_ret
    exact ⟨rfl, K0.out⟩

set_option maxRecDepth 100000 in
set_option maxHeartbeats 4000000 in
theorem remay_all (t : Int) (nm : ByteArray) (ty n : Int) (s : ByteArray) : ∃ b : Bool, (b = true ↔ OkE t nm ty n s) ∧ MayE 25 t nm ty n s b := by
  obtain ⟨bv, hV, _, hC⟩ := may_same ty n s
  cases bv with
  | false =>
    refine ⟨false, ⟨(fun h => by cases h), fun h => by obtain ⟨q1, q2, q3, q4, q5, q6⟩ := h; first | (exfalso; omega) | exact absurd (hV.2 q5) (by decide) | exact absurd rfl q6⟩, fun w => ?_⟩
    have k0 : Keeps (fun _ => False) w (w.alloc (.cells #[.int .i64 t, .string nm, .int .i64 ty, .int .i64 n, .string s] 49)) := (Keeps.refl _ _).alloc _
    have K0 := Lib.hid k0
    have VC := Lib.hid (hC (w.alloc (.cells #[.int .i64 t, .string nm, .int .i64 ty, .int .i64 n, .string s] 49)))
    clear k0 hC hV
    go_enter Try.func25, Try.ntmps25
    go_wp2_with fail
    refine VC.out.mono ?_
    rintro e w2 ⟨rfl, hb⟩
    have K2 := Lib.hid (K0.out.trans (Keeps.ofBelow (S := fun _ => False) hb) (fun _ _ h => h))
    have e0 : w2.cell? ⟨w.heap.size, 0, none⟩ = some (.int .i64 t) := (hb.cell (p := ⟨w.heap.size, 0, none⟩) (by simp)).trans (by simp)
    have e1 : w2.cell? ⟨w.heap.size, 1, none⟩ = some (.string nm) := (hb.cell (p := ⟨w.heap.size, 1, none⟩) (by simp)).trans (by simp)
    have e2 : w2.cell? ⟨w.heap.size, 2, none⟩ = some (.int .i64 ty) := (hb.cell (p := ⟨w.heap.size, 2, none⟩) (by simp)).trans (by simp)
    clear hb
    go_wp2
    go_ret
    exact ⟨rfl, K2.out⟩
  | true =>
    by_cases h6 : ty = 4
    · subst h6
      refine ⟨false, ⟨(fun h => by cases h), fun h => by obtain ⟨q1, q2, q3, q4, q5, q6⟩ := h; first | (exfalso; omega) | exact absurd (hV.2 q5) (by decide) | exact absurd rfl q6⟩, fun w => ?_⟩
      have k0 : Keeps (fun _ => False) w (w.alloc (.cells #[.int .i64 t, .string nm, .int .i64 4, .int .i64 n, .string s] 49)) := (Keeps.refl _ _).alloc _
      have K0 := Lib.hid k0
      have VC := Lib.hid (hC (w.alloc (.cells #[.int .i64 t, .string nm, .int .i64 4, .int .i64 n, .string s] 49)))
      clear k0 hC hV
      go_enter Try.func25, Try.ntmps25
      go_wp2_with fail
      refine VC.out.mono ?_
      rintro e w2 ⟨rfl, hb⟩
      have K2 := Lib.hid (K0.out.trans (Keeps.ofBelow (S := fun _ => False) hb) (fun _ _ h => h))
      have e0 : w2.cell? ⟨w.heap.size, 0, none⟩ = some (.int .i64 t) := (hb.cell (p := ⟨w.heap.size, 0, none⟩) (by simp)).trans (by simp)
      have e1 : w2.cell? ⟨w.heap.size, 1, none⟩ = some (.string nm) := (hb.cell (p := ⟨w.heap.size, 1, none⟩) (by simp)).trans (by simp)
      have e2 : w2.cell? ⟨w.heap.size, 2, none⟩ = some (.int .i64 4) := (hb.cell (p := ⟨w.heap.size, 2, none⟩) (by simp)).trans (by simp)
      clear hb
      go_wp2
      go_ret
      exact ⟨rfl, K2.out⟩
    · have d6 : (ty == 4) = false := by simpa using h6
      have d6n : (ty != 4) = true := by simpa using h6
      by_cases h1 : 0 ≤ t
      · have d1 : decide (0 ≤ t) = true := decide_eq_true h1
        by_cases h2 : t ≤ 200
        · have d2 : decide (t ≤ 200) = true := decide_eq_true h2
          by_cases h3 : 1 ≤ nm.size
          · have d3 : nm.toList.isEmpty = false := by rw [empty_size]; exact decide_eq_false (by omega)
            have d3b : decide (1 ≤ (nm.size : Int)) = true := decide_eq_true (by omega)
            have d3c : 1 ≤ (nm.size : Int) := by omega
            by_cases h4 : nm.size ≤ 8
            · have d4 : decide ((nm.size : Int) ≤ 8) = true := decide_eq_true (by omega)
              have d4b : (nm.size : Int) ≤ 8 := by omega
              refine ⟨true, ⟨fun _ => ⟨h1, h2, h3, h4, hV.1 rfl, h6⟩, fun _ => rfl⟩, fun w => ?_⟩
              have k0 : Keeps (fun _ => False) w (w.alloc (.cells #[.int .i64 t, .string nm, .int .i64 ty, .int .i64 n, .string s] 49)) := (Keeps.refl _ _).alloc _
              have K0 := Lib.hid k0
              have VC := Lib.hid (hC (w.alloc (.cells #[.int .i64 t, .string nm, .int .i64 ty, .int .i64 n, .string s] 49)))
              clear k0 hC hV
              go_enter Try.func25, Try.ntmps25
              go_wp2_with fail
              refine VC.out.mono ?_
              rintro e w2 ⟨rfl, hb⟩
              have K2 := Lib.hid (K0.out.trans (Keeps.ofBelow (S := fun _ => False) hb) (fun _ _ h => h))
              have e0 : w2.cell? ⟨w.heap.size, 0, none⟩ = some (.int .i64 t) := (hb.cell (p := ⟨w.heap.size, 0, none⟩) (by simp)).trans (by simp)
              have e1 : w2.cell? ⟨w.heap.size, 1, none⟩ = some (.string nm) := (hb.cell (p := ⟨w.heap.size, 1, none⟩) (by simp)).trans (by simp)
              have e2 : w2.cell? ⟨w.heap.size, 2, none⟩ = some (.int .i64 ty) := (hb.cell (p := ⟨w.heap.size, 2, none⟩) (by simp)).trans (by simp)
              clear hb
              go_wp2
              go_ret
              exact ⟨rfl, K2.out⟩
            · have d4 : decide ((nm.size : Int) ≤ 8) = false := decide_eq_false (by omega)
              have d4b : ¬ (nm.size : Int) ≤ 8 := by omega
              refine ⟨false, ⟨(fun h => by cases h), fun h => by obtain ⟨q1, q2, q3, q4, q5, q6⟩ := h; first | (exfalso; omega) | exact absurd (hV.2 q5) (by decide) | exact absurd rfl q6⟩, fun w => ?_⟩
              have k0 : Keeps (fun _ => False) w (w.alloc (.cells #[.int .i64 t, .string nm, .int .i64 ty, .int .i64 n, .string s] 49)) := (Keeps.refl _ _).alloc _
              have K0 := Lib.hid k0
              have VC := Lib.hid (hC (w.alloc (.cells #[.int .i64 t, .string nm, .int .i64 ty, .int .i64 n, .string s] 49)))
              clear k0 hC hV
              go_enter Try.func25, Try.ntmps25
              go_wp2_with fail
              refine VC.out.mono ?_
              rintro e w2 ⟨rfl, hb⟩
              have K2 := Lib.hid (K0.out.trans (Keeps.ofBelow (S := fun _ => False) hb) (fun _ _ h => h))
              have e0 : w2.cell? ⟨w.heap.size, 0, none⟩ = some (.int .i64 t) := (hb.cell (p := ⟨w.heap.size, 0, none⟩) (by simp)).trans (by simp)
              have e1 : w2.cell? ⟨w.heap.size, 1, none⟩ = some (.string nm) := (hb.cell (p := ⟨w.heap.size, 1, none⟩) (by simp)).trans (by simp)
              have e2 : w2.cell? ⟨w.heap.size, 2, none⟩ = some (.int .i64 ty) := (hb.cell (p := ⟨w.heap.size, 2, none⟩) (by simp)).trans (by simp)
              clear hb
              go_wp2
              go_ret
              exact ⟨rfl, K2.out⟩
          · have d3 : nm.toList.isEmpty = true := by rw [empty_size]; exact decide_eq_true (by omega)
            have d3b : decide (1 ≤ (nm.size : Int)) = false := decide_eq_false (by omega)
            have d3c : ¬ 1 ≤ (nm.size : Int) := by omega
            refine ⟨false, ⟨(fun h => by cases h), fun h => by obtain ⟨q1, q2, q3, q4, q5, q6⟩ := h; first | (exfalso; omega) | exact absurd (hV.2 q5) (by decide) | exact absurd rfl q6⟩, fun w => ?_⟩
            have k0 : Keeps (fun _ => False) w (w.alloc (.cells #[.int .i64 t, .string nm, .int .i64 ty, .int .i64 n, .string s] 49)) := (Keeps.refl _ _).alloc _
            have K0 := Lib.hid k0
            have VC := Lib.hid (hC (w.alloc (.cells #[.int .i64 t, .string nm, .int .i64 ty, .int .i64 n, .string s] 49)))
            clear k0 hC hV
            go_enter Try.func25, Try.ntmps25
            go_wp2_with fail
            refine VC.out.mono ?_
            rintro e w2 ⟨rfl, hb⟩
            have K2 := Lib.hid (K0.out.trans (Keeps.ofBelow (S := fun _ => False) hb) (fun _ _ h => h))
            have e0 : w2.cell? ⟨w.heap.size, 0, none⟩ = some (.int .i64 t) := (hb.cell (p := ⟨w.heap.size, 0, none⟩) (by simp)).trans (by simp)
            have e1 : w2.cell? ⟨w.heap.size, 1, none⟩ = some (.string nm) := (hb.cell (p := ⟨w.heap.size, 1, none⟩) (by simp)).trans (by simp)
            have e2 : w2.cell? ⟨w.heap.size, 2, none⟩ = some (.int .i64 ty) := (hb.cell (p := ⟨w.heap.size, 2, none⟩) (by simp)).trans (by simp)
            clear hb
            go_wp2
            go_ret
            exact ⟨rfl, K2.out⟩
        · have d2 : decide (t ≤ 200) = false := decide_eq_false h2
          refine ⟨false, ⟨(fun h => by cases h), fun h => by obtain ⟨q1, q2, q3, q4, q5, q6⟩ := h; first | (exfalso; omega) | exact absurd (hV.2 q5) (by decide) | exact absurd rfl q6⟩, fun w => ?_⟩
          have k0 : Keeps (fun _ => False) w (w.alloc (.cells #[.int .i64 t, .string nm, .int .i64 ty, .int .i64 n, .string s] 49)) := (Keeps.refl _ _).alloc _
          have K0 := Lib.hid k0
          have VC := Lib.hid (hC (w.alloc (.cells #[.int .i64 t, .string nm, .int .i64 ty, .int .i64 n, .string s] 49)))
          clear k0 hC hV
          go_enter Try.func25, Try.ntmps25
          go_wp2_with fail
          refine VC.out.mono ?_
          rintro e w2 ⟨rfl, hb⟩
          have K2 := Lib.hid (K0.out.trans (Keeps.ofBelow (S := fun _ => False) hb) (fun _ _ h => h))
          have e0 : w2.cell? ⟨w.heap.size, 0, none⟩ = some (.int .i64 t) := (hb.cell (p := ⟨w.heap.size, 0, none⟩) (by simp)).trans (by simp)
          have e1 : w2.cell? ⟨w.heap.size, 1, none⟩ = some (.string nm) := (hb.cell (p := ⟨w.heap.size, 1, none⟩) (by simp)).trans (by simp)
          have e2 : w2.cell? ⟨w.heap.size, 2, none⟩ = some (.int .i64 ty) := (hb.cell (p := ⟨w.heap.size, 2, none⟩) (by simp)).trans (by simp)
          clear hb
          go_wp2
          go_ret
          exact ⟨rfl, K2.out⟩
      · have d1 : decide (0 ≤ t) = false := decide_eq_false h1
        refine ⟨false, ⟨(fun h => by cases h), fun h => by obtain ⟨q1, q2, q3, q4, q5, q6⟩ := h; first | (exfalso; omega) | exact absurd (hV.2 q5) (by decide) | exact absurd rfl q6⟩, fun w => ?_⟩
        have k0 : Keeps (fun _ => False) w (w.alloc (.cells #[.int .i64 t, .string nm, .int .i64 ty, .int .i64 n, .string s] 49)) := (Keeps.refl _ _).alloc _
        have K0 := Lib.hid k0
        have VC := Lib.hid (hC (w.alloc (.cells #[.int .i64 t, .string nm, .int .i64 ty, .int .i64 n, .string s] 49)))
        clear k0 hC hV
        go_enter Try.func25, Try.ntmps25
        go_wp2_with fail
        refine VC.out.mono ?_
        rintro e w2 ⟨rfl, hb⟩
        have K2 := Lib.hid (K0.out.trans (Keeps.ofBelow (S := fun _ => False) hb) (fun _ _ h => h))
        have e0 : w2.cell? ⟨w.heap.size, 0, none⟩ = some (.int .i64 t) := (hb.cell (p := ⟨w.heap.size, 0, none⟩) (by simp)).trans (by simp)
        have e1 : w2.cell? ⟨w.heap.size, 1, none⟩ = some (.string nm) := (hb.cell (p := ⟨w.heap.size, 1, none⟩) (by simp)).trans (by simp)
        have e2 : w2.cell? ⟨w.heap.size, 2, none⟩ = some (.int .i64 ty) := (hb.cell (p := ⟨w.heap.size, 2, none⟩) (by simp)).trans (by simp)
        clear hb
        go_wp2
        go_ret
        exact ⟨rfl, K2.out⟩

theorem emay_same (t : Int) (nm : ByteArray) (ty n : Int) (s : ByteArray) : ∃ b : Bool, (b = true ↔ OkE t nm ty n s) ∧ MayE 24 t nm ty n s b ∧ MayE 25 t nm ty n s b := by
  obtain ⟨b, h1, h2⟩ := emay_all t nm ty n s
  obtain ⟨c, k1, k2⟩ := remay_all t nm ty n s
  have e : b = c := Bool.eq_iff_iff.2 (h1.trans k1.symm)
  subst e
  exact ⟨b, h1, h2, k2⟩

end Go.Proofs.Ytpighdioomjnmab
