/-
  Layer 8: the document's eight. Written by an AI agent.
-/
import Derived.Test.YtoombjbpblighaaDoorRdC
namespace Go.Proofs.YtoombjbpblighaaDoor
open Go Go.RowKit Go.Shelf
set_option linter.unusedVariables false
set_option linter.unusedSimpArgs false

set_option maxRecDepth 100000 in
set_option maxHeartbeats 4000000 in
theorem eight_any (n : Int) (w : World) : Calls Tryd.prog 50 #[.int .i64 n] w fun e w' => ∃ v', e = .returned v' ∧ OutB w' v' (bytes8 n) ∧ (∀ g, v'.ownBlock = some g → w.heap.size ≤ g) ∧ Keeps (fun _ => False) w w' := by
  go_enter Tryd.func50, Tryd.ntmps50
  go_wp2_with fail
  have ho : OutB (w.alloc (.cells #[] 5)) (.slice (some ⟨w.heap.size, 0, none⟩) 0 0) [] := own_empty w
  have HO := Lib.hid ho
  have hg : ∀ g, (Value.slice (some ⟨w.heap.size, 0, none⟩) 0 0).ownBlock = some g → w.heap.size ≤ g := fun g h => by have h : some w.heap.size = some g := h; have := Option.some.inj h; omega
  have HG := Lib.hid hg
  have K0 : Hid (Keeps (fun _ => False) w (w.alloc (.cells #[] 5))) := Lib.hid ((Keeps.refl _ _).alloc _)
  obtain ⟨v0, hv0⟩ : ∃ v0, v0 = Value.slice (some ⟨w.heap.size, 0, none⟩) 0 0 := ⟨_, rfl⟩
  rw [← hv0] at HO HG ⊢
  clear ho hg hv0
  go_loopw [3, 4] (fun s3 s4 wr => ∃ (k : Nat), k ≤ 8 ∧ s4 = .int .i64 (7 - (k : Int)) ∧ OutB wr s3 ((bytes8 n).take k) ∧ (∀ g, s3.ownBlock = some g → w.heap.size ≤ g) ∧ Keeps (fun _ => False) w wr) (fun _ s4 _ => ((intOf s4) + 9).toNat)
  case atStart => exact ⟨0, by omega, by simp, by simpa using HO.out, HG.out, K0.out⟩
  case round =>
    obtain ⟨k, hk, rfl, ho, hg, kr⟩ := hrel
    have HOW := Lib.hid ho
    have HGW := Lib.hid hg
    have KR := Lib.hid kr
    clear ho kr hg
    obtain ⟨x0, rfl⟩ : ∃ x, x = u3 := ⟨_, rfl⟩
    by_cases h8 : k < 8
    · have hI : (0 : Int) ≤ 7 - (k : Int) := by omega
      have hd : decide ((0 : Int) ≤ 7 - (k : Int)) = true := decide_eq_true hI
      have hI2 : (k : Int) ≤ 7 := by omega
      have hd2 : decide ((k : Int) ≤ 7) = true := decide_eq_true hI2
      have hI3 : (0 : Int) ≤ 8 * (7 - (k : Int)) := by omega
      have hI4 : 8 * (7 - (k : Int)) ≤ 56 := by omega
      obtain ⟨m, hm⟩ : ∃ m : Nat, m = ((bytes8 n).take k).length := ⟨_, rfl⟩
      have hm9 : m ≤ 8 := by rw [hm, List.length_take]; omega
      have HMm := Lib.hid hm
      obtain ⟨x, hx⟩ : ∃ x, x = IntKind.u64.wrap n / 2 ^ (8 * (7 - k)) % 256 := ⟨_, rfl⟩
      have HX := Lib.hid hx
      have HT : Hid ((bytes8 n).take (k + 1) = (bytes8 n).take k ++ [x]) := Lib.hid (by rw [bytes8_take n k h8, hx]; unfold byteN; rw [show 56 - 8 * k = 8 * (7 - k) by omega])
      clear hm hx
      go_wp2_with (at_builtin
                   refine wpList_append_bytes rfl (.tmp 10) (.tmp 17) rfl rfl x0 ((bytes8 n).take k) (by rfl) (own_of1 HOW.out ((Keeps.refl _ wr).alloc _)) (wr.heap.size + 1) (some ⟨wr.heap.size, 0, none⟩) 1 1 [x] (by rfl) rfl (fun _ => ⟨wr.heap.size, 0, rfl, Nat.lt_succ_self _, fun j hj => by obtain rfl : j = 0 := (by simp at hj; omega); rw [HX.out]; simp⟩) (by rw [← HMm.out]; omega) ?_
                   intro v5 w5 o5 g5
                   obtain ⟨A5, c5, rfl⟩ := own_formk o5
                   obtain ⟨j5, hj5⟩ : ∃ j, j = ((bytes8 n).take k ++ [x]).length := ⟨_, rfl⟩
                   rw [← hj5] at o5 g5 ⊢
                   have O5 := Lib.hid o5
                   have G5 := Lib.hid g5
                   clear o5 g5 hj5)
      have GF : Hid (∀ g, (Value.slice A5 j5 c5).ownBlock = some g → w.heap.size ≤ g) := Lib.hid fun g hg => by
        rcases G5.out.2 g hg with e | e
        · exact HGW.out g e.symm
        · have h1 := KR.out.size
          simp at e
          omega
      have KF : Hid (Keeps (fun _ => False) w w5) := Lib.hid ((KR.out.alloc _).trans G5.out.1 (fun p hp e => by have := HGW.out p e.symm; omega))
      go_roundw
      case rel => exact ⟨k + 1, by omega, by go_num, by rw [HT.out]; exact O5.out, GF.out, KF.out⟩
      case measure => simp [intOf]; omega
    · obtain rfl : k = 8 := by omega
      have ht : (bytes8 n).take 8 = bytes8 n := List.take_of_length_le (by simp [bytes8])
      have HT := Lib.hid ht
      clear ht
      go_wp2
      go_ret
      exact ⟨_, rfl, by rw [← HT.out]; exact HOW.out, HGW.out, KR.out⟩

end Go.Proofs.YtoombjbpblighaaDoor
