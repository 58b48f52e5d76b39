/-
  Layer 14: the contract of Times of numbers. Written by an AI agent.
-/
import Derived.Test.YtpighdioomjnmabKpJ
namespace Go.Proofs.Ytpighdioomjnmab
open Go.RowKit Go.Shelf
set_option linter.unusedVariables false
set_option linter.unusedSimpArgs false

theorem info3k : (Try.prog.info? 3).map (fun i => (i.zero, i.size, i.bytes)) = some (some (.int .i64 0), 1, 8) := by kernel_rfl

/-- The times as values. -/
def tv (L : List (Int × Int)) : List Value := L.map fun p => .int .i64 p.1
theorem tv_snoc (L : List (Int × Int)) (k : Nat) (h : k < L.length) : tv (L.take (k + 1)) = tv (L.take k) ++ [.int .i64 (L.getD k (0, 0)).1] := by
  unfold tv
  rw [List.take_succ_eq_append_getElem h, List.map_append, List.getD_eq_getElem?_getD, List.getElem?_eq_getElem h]
  rfl

theorem news1 {w : World} {s : Nat} (v : Value) (t : TypeId) (hs : w.heap.size = s) : ∀ j u, ([v] : List Value)[j]? = some u → (w.alloc (.cells #[v] t)).cell? ((⟨s, 0, none⟩ : Addr).add j) = some u := by
  intro j u h
  have : j = 0 := by
    have := (List.getElem?_eq_some_iff.1 h).1
    simp at this
    exact this
  subst this
  subst hs
  simpa [Addr.add] using h

/-- What Times tells. -/
def GotTimes (L : List (Int × Int)) (w : World) (e : Ending) (w' : World) : Prop :=
  ∃ v', e = .returned v' ∧ w'.ownsRow 0 3 1 v' L.length (tv L) ∧ (∀ j, v'.ownBlock = some j → w.heap.size ≤ j) ∧ Keeps (fun _ => False) w w'

set_option maxRecDepth 100000 in
set_option maxHeartbeats 2000000 in
theorem times_any (w : World) (S : Nat → Prop) (kp : Nat) (most : Int) (v : Value) (L : List (Int × Int)) (H : KeepIs w S kp most v L) (hn : L.length ≤ 1000) :
    Calls Try.prog 21 #[.pointer (some ⟨kp, 0, none⟩)] w (GotTimes L w) := by
  obtain ⟨i0, hi, hz0, hz1, hz2⟩ := info_parts info3k
  have HH := Lib.hid H
  have c1 := H.c1
  obtain ⟨A, c, hv⟩ := own_formk H.own
  have hg : ∀ k, k < L.length → ∃ g, A = some ⟨g, 0, none⟩ ∧ g < w.heap.size ∧ w.cell? ⟨g, k * 2, none⟩ = some (.int .i64 (L.getD k (0, 0)).1) ∧ w.cell? ⟨g, k * 2 + 1, none⟩ = some (.int .i64 (L.getD k (0, 0)).2) := fun k hk => by
    have ho := H.own
    rw [hv] at ho
    rcases ho.2 with ⟨_, h0⟩ | ⟨g, cap, cur, e1, _⟩
    · omega
    · simp only [Value.slice.injEq] at e1
      obtain ⟨rfl, _, rfl⟩ := e1
      exact ⟨g, rfl, own_ltk ho rfl, (ho.cellAt (k * 2) (by omega)).trans (flatK_at L k hk).1, (ho.cellAt (k * 2 + 1) (by omega)).trans (flatK_at L k hk).2⟩
  rw [hv] at c1
  have HG := Lib.hid hg
  obtain ⟨N, hN⟩ : ∃ N : Nat, N = L.length := ⟨_, rfl⟩
  rw [← hN] at c1 hn
  have HN := Lib.hid hN
  clear H hv hg hN
  go_enter Try.func21, Try.ntmps21
  go_wp2_with fail
  go_loopw [3, 11] (fun s3 s11 wr => ∃ k : Nat, k ≤ N ∧ s11 = .int .i64 k ∧ wr.ownsRow 0 3 1 s3 k (tv (L.take k)) ∧ (∀ j, s3.ownBlock = some j → w.heap.size ≤ j) ∧ Keeps (fun _ => False) w wr) (fun _ s11 _ => N - (intOf s11).toNat)
  case atStart => exact ⟨0, Nat.zero_le _, rfl, World.ownsRow_nil _ _ _ _, by simp [Value.ownBlock], Keeps.refl _ _⟩
  case round =>
    obtain ⟨k, hk, rfl, hown, hb, kr⟩ := hrel
    by_cases hkn : k < N
    · have hkn' : (k : Int) < (N : Int) := by omega
      have hk0 : (0 : Int) ≤ (k : Int) := by omega
      have hkL : k < L.length := by rw [← HN.out]; exact hkn
      obtain ⟨g, rfl, hgl, d0, d1⟩ := HG.out k hkL
      replace d0 := (kr.cell hgl (fun h => h)).trans d0
      replace d1 := (kr.cell hgl (fun h => h)).trans d1
      have hts := tv_snoc L k hkL
      obtain ⟨y, hy⟩ : ∃ y : Int, y = (L.getD k (0, 0)).1 := ⟨_, rfl⟩
      obtain ⟨z, hz⟩ : ∃ z : Int, z = (L.getD k (0, 0)).2 := ⟨_, rfl⟩
      rw [← hy] at d0 hts
      rw [← hz] at d1
      have hsr := kr.size
      have HO := Lib.hid hown
      have HBk := Lib.hid hb
      have KR := Lib.hid kr
      have HT := Lib.hid hts
      clear hown hb kr hts hy hz hgl
      go_wp2_with (at_builtin; refine wpList_append_atk rfl (.tmp 15) (.tmp 18) 35 rfl 0 3 i0 _ 1 8 Try.underlying35 hi hz0 hz1 hz2 (by rfl) (by omega) _ k (tv (L.take k)) (by rfl) ((HO.out.alloc _).alloc _) ⟨wr.heap.size + 1, 0, none⟩ 1 1 [.int .i64 y] (by rfl) (by rfl) (news1 _ _ (by simp)) (by simp [Value.oneCell']) (by omega) (by omega) (Nat.zero_le _) ?_
                   intro v5 w5 h5 g5 b5
                   have H5 := Lib.hid h5
                   have G5 := Lib.hid g5
                   have B5 := Lib.hid b5
                   clear h5 g5 b5)
      go_roundw
      case rel =>
        refine ⟨k + 1, by omega, by go_num, by rw [HT.out]; exact H5.out, fun j hj => ?_, (((KR.out.alloc _).alloc _).grown G5.out (fun j hj hlt => ?_))⟩
        · rcases B5.out with e | e
          · exact HBk.out j (e.symm.trans hj)
          · rw [e] at hj
            have := Option.some.inj hj
            simp at this
            omega
        · have := HBk.out j hj
          omega
      case measure => simp [intOf]; omega
    · obtain rfl : k = N := by omega
      have hd : decide (k < k) = false := by simp
      rw [List.take_of_length_le (by rw [← HN.out]; exact Nat.le_refl _)] at hown
      obtain ⟨A5, c5, rfl⟩ := own_formk hown
      have HO := Lib.hid hown
      have HBk := Lib.hid hb
      have KR := Lib.hid kr
      clear hown hb kr
      go_wp2
      go_ret
      exact ⟨_, rfl, by rw [← HN.out]; exact HO.out, HBk.out, KR.out⟩

end Go.Proofs.Ytpighdioomjnmab
