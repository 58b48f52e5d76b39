/-
  Layer 2: what the cursor looks for. Written by an AI agent.
-/
import Derived.Test.YtgelggdgbmldiaaDoorPaC
namespace Go.Proofs.YtgelggdgbmldiaaDoor
open Go Go.RowKit Go.Shelf
set_option linter.unusedVariables false
set_option linter.unusedSimpArgs false

shelf_lay Lays.n110 Nm 110 at Tryd as laysContains

theorem list_beq (a b : ByteArray) : decide (a = b) = decide (a.data.toList = b.data.toList) := by
  by_cases h : a = b
  · rw [h]; simp
  · rw [decide_eq_false h, decide_eq_false (fun e => h (bytes_ext e))]
theorem contains_list (xs : List ByteArray) (x : ByteArray) : Lib.containsS xs x = (xs.map fun y => y.data.toList).contains x.data.toList := by
  rw [Bool.eq_iff_iff, Lib.containsS_iff, List.contains_iff_mem, List.mem_map]
  exact ⟨fun h => ⟨x, h, rfl⟩, fun ⟨y, hy, e⟩ => bytes_ext e ▸ hy⟩
theorem isS_eq (T : List Tok) (s : PS) (xs : List ByteArray) : isS T (xs.map fun y => y.data.toList) s = ((decide ((tokA T s).k = 5) || decide ((tokA T s).k = 4)) && Lib.containsS xs (ofL (tokA T s).x)) := by
  rw [contains_list, ofL_list]
  rfl
set_option maxRecDepth 100000 in
set_option maxHeartbeats 8000000 in
theorem is_any {P : Nat} {src : ByteArray} {T : List Tok} {R : Nat → Prop} {s : PS} {w : World} (h : Par w P src T R s) (xs : List ByteArray) (b off n : Nat) (hn : n = xs.length) (hn1 : n ≤ 1000)
    (hx : ∀ j, j < n → w.cell? ⟨b, off + j, none⟩ = some (.string (xs.getD j ByteArray.empty))) :
    Calls Tryd.prog 51 #[.pointer (some ⟨P, 0, none⟩), .slice (some ⟨b, off, none⟩) n n] w fun e w' => e = .returned (.bool (isS T (xs.map fun y => y.data.toList) s)) ∧ Keeps (fun _ => False) w w' := by
  rw [isS_eq]
  have NC : Hid (Calls Tryd.prog 25 #[.pointer (some ⟨P, 0, none⟩)] w fun e w' => e = .returned (.agg #[.int .i64 ((tokA T s).k : Int), .string (ofL (tokA T s).x), .int .i64 ((tokA T s).p : Int)]) ∧ Keeps (fun _ => False) w w') := Lib.hid (now_any h)
  have CC : Hid (∀ w1, Keeps (fun _ => False) w w1 → Calls Tryd.prog 80 #[.slice (some ⟨b, off, none⟩) n n, .string (ofL (tokA T s).x)] w1 fun e w' => e = .returned (.bool (Lib.containsS xs (ofL (tokA T s).x))) ∧ w' = w1) := Lib.hid fun w1 k => by
    have h2 := Any.slices_Contains_string laysContains b off n n xs (ofL (tokA T s).x) w1 (by omega) (by omega) (fun j hj => (k.cell (cell_ltk (hx j (by omega))) (fun h => h)).trans (hx j (by omega)))
    rw [List.take_of_length_le (by omega)] at h2
    exact h2
  generalize Lib.containsS xs (ofL (tokA T s).x) = cb at CC ⊢
  have e5 : decide ((tokA T s).k = 5) = decide (((tokA T s).k : Int) = 5) := decide_eq_decide.2 (by omega)
  have e4 : decide ((tokA T s).k = 4) = decide (((tokA T s).k : Int) = 4) := decide_eq_decide.2 (by omega)
  rw [e5, e4]
  clear e5 e4
  generalize tokA T s = tk at NC CC ⊢
  obtain ⟨k, hk⟩ : ∃ k : Int, k = (tk.k : Int) := ⟨_, rfl⟩
  rw [← hk] at NC ⊢
  clear hk hx h hn
  have walk : ∀ r : Bool, ((k = 5 ∧ r = cb) ∨ (k ≠ 5 ∧ k = 4 ∧ r = cb) ∨ (k ≠ 5 ∧ k ≠ 4 ∧ r = false)) → Calls Tryd.prog 51 #[.pointer (some ⟨P, 0, none⟩), .slice (some ⟨b, off, none⟩) n n] w fun e w' => e = .returned (.bool r) ∧ Keeps (fun _ => False) w w' := by
    intro r hr
    have HRR := Lib.hid hr
    clear hr
    go_enter Tryd.func51, Tryd.ntmps51
    go_wp2_with fail
    refine NC.out.mono ?_
    rintro e w1 ⟨rfl, k1⟩
    have z := Loc.new (w := w1) (R := fun _ => False) (fun h => h) [.int .i64 k, .string (ofL tk.x), .int .i64 (tk.p : Int)] 54
    have K2 := Lib.hid (k1.alloc (.cells #[.int .i64 k, .string (ofL tk.x), .int .i64 (tk.p : Int)] 54))
    go_upto_region 2 with fail
    obtain ⟨X, hX⟩ : ∃ X, X = w1.heap.size := ⟨_, rfl⟩
    obtain ⟨w2, hw2⟩ : ∃ w2, w2 = w1.alloc (.cells #[.int .i64 k, .string (ofL tk.x), .int .i64 (tk.p : Int)] 54) := ⟨_, rfl⟩
    have z : Loc w2 (fun _ => False) X [.int .i64 k, .string (ofL tk.x), .int .i64 (tk.p : Int)] := by rw [hw2, hX]; exact z
    rw [← hX]
    rw [← hw2] at K2 ⊢
    have z0 := z.cells 0 _ rfl
    have z1 := z.cells 1 _ rfl
    clear k1 hw2 hX z NC
    have CD := Lib.hid (CC.out w2 K2.out)
    clear CC
    rcases HRR.out with ⟨rfl, rfl⟩ | ⟨h5, rfl, rfl⟩ | ⟨h5, h4, rfl⟩
    · clear HRR
      go_wp2_with (go_at_call 80; refine CD.out.mono ?_; rintro e w' ⟨rfl, rfl⟩)
      go_ret
      exact ⟨rfl, K2.out⟩
    · clear HRR h5
      go_wp2_with (go_at_call 80; refine CD.out.mono ?_; rintro e w' ⟨rfl, rfl⟩)
      go_ret
      exact ⟨rfl, K2.out⟩
    · clear HRR
      have d5 : (k == 5) = false := by simpa using h5
      have d4 : (k == 4) = false := by simpa using h4
      go_wp2_with fail
      go_ret
      exact ⟨rfl, K2.out⟩
  by_cases h5 : k = 5
  · rw [decide_eq_true h5]
    exact walk _ (.inl ⟨h5, by simp⟩)
  · by_cases h4 : k = 4
    · rw [decide_eq_false h5, decide_eq_true h4]
      exact walk _ (.inr (.inl ⟨h5, h4, by simp⟩))
    · rw [decide_eq_false h5, decide_eq_false h4]
      exact walk _ (.inr (.inr ⟨h5, h4, by simp⟩))
end Go.Proofs.YtgelggdgbmldiaaDoor
