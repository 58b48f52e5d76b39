/-
  Layer 10: the contract of Lists, its walk. Written by an AI agent.
-/
import Derived.Test.YtpighdioomjnmaaHpC
namespace Go.Proofs.Ytpighdioomjnmaa
open Go.RowKit
set_option linter.unusedVariables false

theorem info41 : (Try.prog.info? 41).map (fun i => (i.zero, i.size, i.bytes)) = some (some (.slice none 0 0), 1, 24) := by kernel_rfl
theorem info3s : (Try.prog.info? 3).map (·.size) = some 1 := by kernel_rfl

/-- What Lists hands back: these lists, in new memory. -/
def GotLists (L : List (List Int)) (w : World) (e : Ending) (w' : World) : Prop :=
  ∃ v cap A, v = .slice A L.length cap ∧ e = .returned v ∧ LsIs w' (fun b => w.heap.size ≤ b) v L ∧ Keeps (fun _ => False) w w'

set_option maxRecDepth 100000 in
set_option maxHeartbeats 1000000 in
theorem lists_any (w : World) (S : Nat → Prop) (p : Nat) (vc ve : Value) (L : List (List Int)) (H : HeapIs w S p vc ve L.flatten (ends L)) (hL : L.length ≤ 1000) (hc : L.flatten.length ≤ 1000) :
    Calls Try.prog 20 #[.pointer (some ⟨p, 0, none⟩)] w (GotLists L w) := by
  obtain ⟨i0, hi, hz0, hz1, hz2⟩ := info_parts info3
  obtain ⟨i1, hj, hy0, hy1, hy2⟩ := info_parts info41
  obtain ⟨n, hn⟩ : ∃ n : Nat, n = L.length := ⟨_, rfl⟩
  obtain ⟨B, ce, hve, _⟩ := rdv_row H.oe
  rw [ends_length, ← hn] at hve
  have q1 := H.c1
  rw [hve] at q1
  rw [← hn] at hL
  have HL : Hid (∀ (wr : World), Keeps (fun _ => False) w wr → HeapIs wr S p vc ve L.flatten (ends L)) := fun wr hk => H.keep hk (fun _ _ _ h => h)
  have HN := Lib.hid hn
  clear H hn hve
  go_enter Try.func20, Try.ntmps20
  go_wp2
  go_loopw [3, 12] (fun v i wr => ∃ (k : Nat) (rows : List Value), k ≤ n ∧ i = .int .i64 k ∧ wr.ownsRow 0 41 1 v k rows ∧ (∀ j, v.ownBlock = some j → w.heap.size ≤ j) ∧ (∀ i, i < k → wr.ownsRow 0 3 1 (rows.getD i (.slice none 0 0)) (L.getD i []).length (iv (L.getD i [])) ∧ ∀ j, (rows.getD i (.slice none 0 0)).ownBlock = some j → w.heap.size ≤ j) ∧ Keeps (fun _ => False) w wr) (fun _ i _ => n - (intOf i).toNat)
  case atStart => exact ⟨0, [], Nat.zero_le _, rfl, World.ownsRow_nil _ _ _ _, by simp [Value.ownBlock], fun i hi => absurd hi (Nat.not_lt_zero _), Keeps.refl _ _⟩
  case round =>
    obtain ⟨k, rows, hk, rfl, o1, o2, o3, kw⟩ := hrel
    have O2 := Lib.hid o2
    have O3 := Lib.hid o3
    have O1 := Lib.hid o1
    have KW := Lib.hid kw
    clear o1 o2 o3 kw
    by_cases hlt : k < n
    · have hlt' : (k : Int) < (n : Int) := by omega
      obtain ⟨m, hm⟩ : ∃ m : Nat, m = (L.getD k []).length := ⟨_, rfl⟩
      have hm2 : m ≤ 1000 := by have := flat_take L k (by rw [← HN.out]; exact hlt); have := flat_le L (k + 1); omega
      have LC := Lib.hid (list_in wr S p vc ve L (HL.out wr KW.out) (by rw [← HN.out]; exact hL) hc k (by rw [← HN.out]; exact hlt))
      rw [← hm] at LC
      have HM := Lib.hid hm
      clear hm
      go_wp2_with fail
      refine LC.out.mono ?_
      rintro e w2 ⟨A, rfl, hA, q, hq⟩
      have KQ : Hid (Keeps (fun _ => False) wr w2) := by rw [hq]; exact keeps_drewN _ wr q
      have HA := Lib.hid hA
      clear hA hq
      go_wp2_with (first
        | (at_make; refine wpList_make_full _ rfl _ _ 41 rfl 0 3 i0 _ 1 Try.underlying41 hi hz0 hz1 .i64 .i64 _ _ m rfl rfl (by omega) (by omega) (by rw [hz2]; omega) (by unfold maxLen; omega) (Nat.zero_le _) ?_
           intro w3 hown3 hg3
           obtain ⟨cur, hcl, hcg⟩ := own_cur hown3
           have HG := Lib.hid hcg
           have HC := Lib.hid hcl
           have HB3 : Hid (Below w2.heap.size w2 w3) := (Below.refl _ _).grown hg3 (Nat.le_refl _) (by simp)
           clear hcg hcl hown3 hg3)
        | (refine wpList_copy_splice rfl (.tmp 22) (.tmp 23) 41 41 rfl 3 Try.underlying41 info3s (some ⟨w2.heap.size, 0, none⟩) A m m m m (by rfl) (by rfl) w2.heap.size 0 cur 3 HG.out (iv (L.getD k [])) ?c1 ?c2 ?c3 (iv_one _) w2.heap.size w2 HB3.out (Nat.le_refl _) ?_
           case c1 => rw [iv_length, ← HM.out]; exact (Nat.min_self m).symm
           case c2 =>
             intro h0
             rw [iv_length, ← HM.out] at h0
             obtain ⟨g, hg1, hg2⟩ := HA.out h0
             refine ⟨rfl, _, hg2, fun j u hu => ?_⟩
             have hj : j < (L.getD k []).length := by have := (List.getElem?_eq_some_iff.1 hu).1; rw [iv_length] at this; exact this
             rw [show (⟨g, (L.take k).flatten.length, none⟩ : Addr).add j = ⟨g, (L.take k).flatten.length + j, none⟩ from by unfold Addr.add; split <;> simp_all]
             have hH := HL.out w2 (KW.out.trans KQ.out (fun _ _ h => h))
             have hgl : g < w2.heap.size := (hH.sc g hg1).2.2
             rw [HB3.out.cell (p := ⟨g, _, none⟩) hgl, rd_list hH (by rw [← HN.out]; exact hlt) hg1 j hj, ← hu, iv_at hj]
           case c3 => rw [iv_length, ← HM.out, HC.out]; omega
           intro w4 hh4 hb4
           have OA : Hid (∀ o, (w4.alloc o).ownsRow 0 41 1 u3 k rows) := fun o => (ownsRow_keep O1.out fun j hj => (hb4.block j (Nat.lt_of_lt_of_le (own_lt O1.out hj) KQ.out.size)).trans (KQ.out.block j (own_lt O1.out hj) (fun h => h))).alloc o
           have HB4 := Lib.hid hb4
           clear hb4)
        | (at_builtin; refine wpList_append_at rfl (.tmp 25) (.tmp 27) 27 rfl 0 41 i1 _ 24 Try.underlying27 hj hy0 hy1 hy2 (by rfl) _ k rows (by rfl) (OA.out _) _ 1 1 [_] (by rfl) (by simp) (by rfl) (rdv_new _ _ _) (by simp [Value.oneCell']) (by omega) (by omega) (by omega) ?_
           intro v5 w5 hown5 hg5 hb5
           have O5 := Lib.hid hown5
           have G5 := Lib.hid hg5
           have B5 := Lib.hid hb5
           clear hown5 hg5 hb5))
      have hh5 := hh4.out
      have hsp : splice cur 0 (iv (L.getD k [])) = iv (L.getD k []) := by
        unfold splice
        rw [iv_length, ← HM.out, List.drop_of_length_le (by rw [HC.out]; omega)]
        simp
      rw [hsp] at hh5
      obtain ⟨⟨rows5, l1, l2, l3⟩, l4⟩ := ls_round (by rw [← HN.out]; exact hlt) HM.out.symm hm2 O1.out O2.out O3.out KW.out KQ.out HB4.out hh5 O5.out G5.out B5.out
      clear hsp hh5
      have htk : (L.take (k + 1)).length = k + 1 := by rw [List.length_take, ← HN.out]; omega
      rw [htk] at l1
      have l3' : ∀ i, i < k + 1 → w5.ownsRow 0 3 1 (rows5.getD i (.slice none 0 0)) (L.getD i []).length (iv (L.getD i [])) ∧ ∀ j, (rows5.getD i (.slice none 0 0)).ownBlock = some j → w.heap.size ≤ j := fun i hi => by
        have h := l3 i (by rw [htk]; exact hi)
        have eL : (L.take (k + 1)).getD i [] = L.getD i [] := by simp [List.getD_eq_getElem?_getD, hi]
        rw [eL] at h
        exact h
      have L1 := Lib.hid l1
      have L2 := Lib.hid l2
      have L3 := Lib.hid l3'
      have L4 := Lib.hid l4
      clear l1 l2 l3 l3' l4 htk
      go_wp2
      go_roundw
      case rel => exact ⟨k + 1, rows5, by omega, by go_num, L1.out, L2.out, L3.out, L4.out⟩
      case measure => simp [intOf]; omega
    · obtain rfl : k = n := by omega
      have hd : decide (k < k) = false := by simp
      obtain ⟨A, cap, hv⟩ : ∃ A cap, u3 = .slice A k cap := by
        rcases O1.out.2 with ⟨h, h0⟩ | ⟨g, cap, cur, h, _⟩
        · exact ⟨none, 0, by rw [h, h0]⟩
        · exact ⟨_, cap, h⟩
      have HV := Lib.hid hv
      clear hv
      go_wp2
      go_ret
      refine ⟨u3, cap, A, by rw [← HN.out]; exact HV.out, rfl, ⟨rows, by rw [← HN.out]; exact O1.out, O2.out, by rw [← HN.out]; exact O3.out⟩, KW.out⟩

end Go.Proofs.Ytpighdioomjnmaa
