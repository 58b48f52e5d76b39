/-
  Layer 14: the document's example. Written by an AI agent.
-/
import Derived.Test.YtpighdioomjnmabKsB
namespace Go.Proofs.Ytpighdioomjnmab.Str
open Go.RowKit Go.Shelf Go.Proofs.Ytpighdioomjnmab
set_option linter.unusedVariables false
set_option linter.unusedSimpArgs false

theorem KeepIs.wider {w : World} {S T : Nat → Prop} {kp : Nat} {most : Int} {v : Value} {L : List (Int × ByteArray)} (h : KeepIs w S kp most v L) (hST : ∀ k, S k → T k) : KeepIs w T kp most v L :=
  { h with sp := hST _ h.sp, vb := fun g hg => ⟨hST g (h.vb g hg).1, (h.vb g hg).2⟩ }

theorem n1 (A : ByteArray) : newK 2 [] 0 0 A = [(0, A)] := rfl
theorem n2 (A B : ByteArray) : newK 2 [(0, A)] 1 9 B = [(0, A), (9, B)] := rfl
theorem n3 (A B C : ByteArray) : newK 2 [(0, A), (9, B)] 1 4 C = [(0, A), (9, B)] := rfl

set_option maxRecDepth 100000 in
set_option maxHeartbeats 2000000 in
theorem shown_any (w : World) : Calls Try.prog 11 #[] w fun e w' => e = .returned (.bool true) ∧ Below w.heap.size w w' := by
  obtain ⟨A, hA⟩ : ∃ A : ByteArray, A = ⟨#[97]⟩ := ⟨_, rfl⟩
  go_enter Try.func11, Try.ntmps11
  go_wp2_with fail
  refine (knew_any _ _).mono ?_
  rintro e w1 ⟨rfl, hw1⟩
  have H1 := (keepIs_new w 2).wider (T := fun k => w.heap.size ≤ k) (fun k hk => by have : k = w.heap.size := hk; omega)
  have K1 : Keeps (fun k => w.heap.size ≤ k) w w1 := by rw [hw1]; exact (Keeps.refl _ w).alloc _
  rw [← hw1] at H1
  obtain ⟨p, hp⟩ : ∃ p : Nat, p = w.heap.size := ⟨_, rfl⟩
  obtain ⟨B, hB⟩ : ∃ B : Nat, B = w.heap.size := ⟨_, rfl⟩
  rw [← hB] at H1 K1 ⊢
  rw [hB, ← hp] at H1 ⊢
  have HP := Lib.hid hp
  have HBs := Lib.hid hB
  have HH1 := Lib.hid H1
  have HK1 := Lib.hid K1
  clear hw1 hp hB H1 K1
  go_wp2_with fail
  refine (put_new w1 _ p 2 _ [] HH1.out (by simp) 0 _ (by simp)).mono ?_
  rintro e w2 ⟨r, v2, rfl, hr, h1, h2, hK, hk⟩
  obtain rfl : r = 0 := by simpa using hr
  rw [n1] at hK
  have HH2 := Lib.hid (hK.wider (T := fun k => p ≤ k) (fun k hk' => by
    have := HK1.out.size
    have := HP.out
    have := HBs.out
    rcases hk' with q | q
    · exact q
    · omega))
  have HK2 : Hid (Keeps (fun k => p ≤ k) w w2) := (HK1.out.mono (fun k _ h => by have := HP.out; have := HBs.out; have : B ≤ k := h; show p ≤ k; omega)).trans hk (fun _ _ h => h)
  clear hr h1 h2 hK hk
  go_wp2_with fail
  refine (put_new w2 _ p 2 _ [(0, _)] HH2.out (by simp) 9 _ (fun t ht => by
    obtain rfl : t = 0 := by simpa using ht
    simp)).mono ?_
  rintro e w3 ⟨r, v3, rfl, hr, h1, h2, hK, hk⟩
  have hr' : r ≤ 1 := hr
  obtain rfl : r = 1 := by
    rcases Nat.lt_or_ge r 1 with h | h
    · have h3 : (9 : Int) < 0 := h2 0 (by omega) (by simp)
      omega
    · omega
  rw [n2] at hK
  have HH3 := Lib.hid (hK.wider (T := fun k => p ≤ k) (fun k hk' => by
    have := HK2.out.size
    have := HP.out
    rcases hk' with q | q
    · exact q
    · omega))
  have HK3 : Hid (Keeps (fun k => p ≤ k) w w3) := HK2.out.trans hk (fun _ _ h => h)
  clear hr hr' h1 h2 hK hk
  go_wp2_with fail
  refine (put_new w3 _ p 2 _ [(0, _), (9, _)] HH3.out (by simp) 4 _ (fun t ht => by
    have ht' : t < 2 := ht
    obtain rfl | rfl : t = 0 ∨ t = 1 := by omega
    · simp
    · simp)).mono ?_
  rintro e w4 ⟨r, v4, rfl, hr, h1, h2, hK, hk⟩
  have hr' : r ≤ 2 := hr
  obtain rfl : r = 1 := by
    obtain rfl | rfl | rfl : r = 0 ∨ r = 1 ∨ r = 2 := by omega
    · have h3 : (4 : Int) < 0 := h2 0 (by omega) (by simp)
      omega
    · rfl
    · have h3 : (9 : Int) < 4 := h1 1 (by omega)
      omega
  rw [n3] at hK
  have HH4 := Lib.hid (hK.wider (T := fun k => p ≤ k) (fun k hk' => by
    have := HK3.out.size
    have := HP.out
    rcases hk' with q | q
    · exact q
    · omega))
  have HK4 : Hid (Keeps (fun k => p ≤ k) w w4) := HK3.out.trans hk (fun _ _ h => h)
  clear hr hr' h1 h2 hK hk
  go_wp2_with fail
  refine (best_any w4 _ p 2 _ [(0, _), (9, _)] HH4.out (by simp) 8).mono ?_
  rintro e w5 ⟨k5, hc⟩
  rcases hc with ⟨_, h0⟩ | ⟨s, hs, rfl, h1, h2⟩
  · have h3 : (8 : Int) < 0 := h0 0 (by simp)
    omega
  · have hs' : s < 2 := hs
    obtain rfl : s = 0 := by
      obtain rfl | rfl : s = 0 ∨ s = 1 := by omega
      · rfl
      · have h3 : (9 : Int) ≤ 8 := h1
        omega
    have HH5 := Lib.hid (HH4.out.keep k5 (fun _ _ _ h => h))
    have HK5 : Hid (Keeps (fun k => p ≤ k) w w5) := HK4.out.trans k5 (fun _ _ h => h.elim)
    clear k5 hs hs' h1 h2
    go_wp2_with fail
    refine (times_any w5 _ p 2 _ [(0, _), (9, _)] HH5.out (by simp)).mono ?_
    rintro e w6 ⟨v6, rfl, ho, _, k6⟩
    obtain ⟨A6, c6, rfl⟩ := own_formk ho
    have hfin : Below w.heap.size w w6 := (HK5.out.trans k6 (fun _ _ h => h.elim)).toBelow (Nat.le_refl _) (fun k hk => by have := HP.out; have : p ≤ k := hk; omega)
    have HF := Lib.hid hfin
    clear hfin ho k6
    go_wp2
    go_ret
    exact ⟨rfl, HF.out⟩

end Go.Proofs.Ytpighdioomjnmab.Str
