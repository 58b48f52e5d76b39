/-
  Layer 14: Put of a time that is not there. Written by an AI agent.
-/
import Derived.Test.YtpighdioomjnmabKpN
namespace Go.Proofs.Ytpighdioomjnmab
open Go.RowKit Go.Shelf
set_option linter.unusedVariables false
set_option linter.unusedSimpArgs false

/-- What there is behind a Put of a new time. -/
def newK (most : Int) (L : List (Int × Int)) (r : Nat) (a x : Int) : List (Int × Int) :=
  if (max most 1) < ((L.length : Int) + 1) then delK (insK L r (a, x)) (nearK (insK L r (a, x)) (L.length - 1)) else insK L r (a, x)

/-- What Put of a new time leaves. -/
def PutNew (S : Nat → Prop) (kp : Nat) (most : Int) (L : List (Int × Int)) (a x : Int) (w : World) (e : Ending) (w' : World) : Prop :=
  ∃ (r : Nat) (v' : Value), e = .returned (.tuple #[]) ∧ r ≤ L.length ∧ (∀ t, t < r → (L.getD t (0, 0)).1 < a) ∧ (∀ t, r ≤ t → t < L.length → a < (L.getD t (0, 0)).1) ∧
    KeepIs w' (fun k => S k ∨ (w.heap.size ≤ k ∧ k < w'.heap.size)) kp most v' (newK most L r a x) ∧ Keeps S w w'

set_option maxRecDepth 100000 in
set_option maxHeartbeats 2000000 in
theorem put_new (w : World) (S : Nat → Prop) (kp : Nat) (most : Int) (v : Value) (L : List (Int × Int)) (H : KeepIs w S kp most v L) (hn : L.length ≤ 900) (a x : Int) (hna : ∀ t, t < L.length → (L.getD t (0, 0)).1 ≠ a) :
    Calls Try.prog 14 #[.pointer (some ⟨kp, 0, none⟩), .int .i64 a, .int .i64 x] w (PutNew S kp most L a x w) := by
  have BC := Lib.hid (behind_any w S kp most v L H (by omega) a)
  have HH := Lib.hid H
  have hv := own_formk H.own
  obtain ⟨A, c, rfl⟩ := hv
  clear H
  go_enter Try.func14, Try.ntmps14
  go_wp2_with fail
  refine BC.out.mono ?_
  rintro e w1 ⟨r, rfl, k1, h1, h2, h3⟩
  have H1 := HH.out.keep k1 (fun _ _ _ h => h)
  have h2' : ∀ t, t < r → (L.getD t (0, 0)).1 < a := fun t ht => by
    have e1 := h2 t ht
    have e2 := hna t (by omega)
    omega
  obtain ⟨w2, hw2⟩ : ∃ w2 : World, w2 = w1.alloc (.cells #[.int .i64 a, .int .i64 x] 72) := ⟨_, rfl⟩
  have k2 : Keeps (fun _ => False) w1 w2 := by rw [hw2]; exact (Keeps.refl _ _).alloc _
  have H2 := H1.keep k2 (fun _ _ _ h => h)
  have hob : w2.heap[w1.heap.size]? = some (.cells ([.int .i64 a, .int .i64 x] : List Value).toArray 72 (0, 0)) := by rw [hw2]; exact heap_alloc_new w1 _
  have hne : (Value.slice A L.length c).ownBlock ≠ some w1.heap.size := fun h => by have := own_ltk H1.own h; omega
  have IC := Lib.hid (ins_any72 w2 (.slice A L.length c) L.length r (flatK L) [.int .i64 a, .int .i64 x] H2.own (flatK_one L) (by omega) h1 rfl (by simp [Value.oneCell']) w1.heap.size 72 hne hob)
  have sz := k1.size
  have sz2 := k2.size
  have HI : Hid (∀ w3 v3, w3.ownsRow 0 72 2 v3 (L.length + 1) ((flatK L).take (r * 2) ++ [.int .i64 a, .int .i64 x] ++ (flatK L).drop (r * 2)) → w2.grownBy w3 (Value.slice A L.length c).ownBlock → (v3.ownBlock = (Value.slice A L.length c).ownBlock ∨ v3.ownBlock = some w2.heap.size) →
      KeepIs (w3.setCell ⟨kp, 1, none⟩ v3) (fun k => S k ∨ (w.heap.size ≤ k ∧ k < (w3.setCell ⟨kp, 1, none⟩ v3).heap.size)) kp most v3 (insK L r (a, x)) ∧ Keeps S w (w3.setCell ⟨kp, 1, none⟩ v3) ∧ w3.cell? ⟨kp, 1, none⟩ = some (.slice A L.length c) ∧ w3.frozen? ⟨kp, 1, none⟩ = false) := fun w3 v3 ho hg hb => by
    have hsz : (w3.setCell ⟨kp, 1, none⟩ v3).heap.size = w3.heap.size := by simp
    have h := H2.into (T := fun k => S k ∨ (w.heap.size ≤ k ∧ k < (w3.setCell ⟨kp, 1, none⟩ v3).heap.size)) hg (v5 := v3) (M := insK L r (a, x)) (by
      rw [insK_length, ← flatK_ins L r (a, x) h1]
      exact ho) (fun k hk => by
      rcases hb with e | e
      · have h := H2.vb k (e.symm.trans hk)
        exact ⟨.inl h.1, h.2⟩
      · have hlt := own_ltk ho hk
        rw [e] at hk
        have := Option.some.inj hk
        have := H1.lt
        exact ⟨.inr ⟨by omega, by rw [hsz]; omega⟩, by omega⟩) (fun _ h => .inl h) (up_ins H2.up h1 h2' h3)
    have hk : w3.heap[kp]? = w2.heap[kp]? := hg.block kp H2.lt fun e => (H2.vb kp e.symm).2 rfl
    exact ⟨h.1, ((k1.trans k2 (fun _ _ h => h)).mono (T := S) (fun _ _ h => h.elim)).trans h.2 (fun _ _ h => h), (World.cell?_of_block (w := w2) (a := ⟨kp, 1, none⟩) hk).trans H2.c1, (World.frozen?_of_block (w := w2) (a := ⟨kp, 1, none⟩) hk).trans (H2.fz 1)⟩
  have c1 := H1.c1
  have hg : ∀ s, r = s + 1 → ∃ g y, A = some ⟨g, 0, none⟩ ∧ y ≠ a ∧ w1.cell? ⟨g, s * 2, none⟩ = some (.int .i64 y) := fun s hs => by
    rcases H1.own.2 with ⟨_, h0⟩ | ⟨g, cap, cur, e1, _⟩
    · omega
    · simp only [Value.slice.injEq] at e1
      obtain ⟨rfl, _, rfl⟩ := e1
      exact ⟨g, _, rfl, hna s (by omega), (H1.own.cellAt (s * 2) (by omega)).trans (flatK_at L s (by omega)).1⟩
  have HB := Lib.hid (And.intro h1 (And.intro h2' h3))
  have HW2 := Lib.hid hw2
  obtain ⟨N, hN⟩ : ∃ N : Nat, N = L.length := ⟨_, rfl⟩
  rw [← hN] at c1 IC HI hn
  have hrN : r ≤ N := by rw [hN]; exact h1
  have HN := Lib.hid hN
  clear h1 h2 h2' h3 k1 k2 H1 H2 hob hne hna hN sz sz2
  by_cases hr : r = 0
  · subst hr
    clear hg
    go_wp2_with fail
    rw [← HW2.out]
    refine IC.out.mono ?_
    rintro e w3 ⟨v3, rfl, ho, hg3, hb3⟩
    obtain ⟨A3, c3, rfl⟩ := own_formk ho
    obtain ⟨hK4, hk4, q1, qf⟩ := HI.out w3 _ ho hg3 hb3
    obtain ⟨w4, hw4⟩ : ∃ w4 : World, w4 = w3.setCell ⟨kp, 1, none⟩ (.slice A3 (N + 1) c3) := ⟨_, rfl⟩
    rw [← hw4] at hK4 hk4
    have e0 := hK4.c0
    have e1 := hK4.c1
    have HK4 := Lib.hid hK4
    have Hk4 := Lib.hid hk4
    have HW4 := Lib.hid hw4
    have hwn : IntKind.i64.wrap ((N : Int) + 1) = (N : Int) + 1 := IntWalk.i64_in _ (by omega)
    clear ho hg3 hb3 hK4 hk4 hw4
    go_wp2_with fail
    try rw [← HW4.out]
    go_region
    all_goals
      by_cases hm : max most 1 < (N : Int) + 1
      · have hd : decide (max most 1 < (N : Int) + 1) = true := decide_eq_true hm
        have hml : (insK L 0 (a, x)).length = N + 1 := by rw [insK_length, ← HN.out]
        have hN1 : 1 ≤ N := by omega
        have hKd := HK4.out.keep (T := fun _ => False) (Keeps.refl _ _).drew (fun _ _ _ h => h)
        have NC := Lib.hid (nearest_any w4.drew _ kp most _ _ hKd (by rw [hml]; omega) (by rw [hml]; omega))
        obtain ⟨b, hb⟩ : ∃ b : Nat, b = nearK (insK L 0 (a, x)) ((insK L 0 (a, x)).length - 2) := ⟨_, rfl⟩
        have hbin := nearK_in (insK L 0 (a, x)) ((insK L 0 (a, x)).length - 2)
        rw [← hb] at hbin
        rw [hml] at hbin
        have hbN : b < N + 1 := by omega
        have HBn := Lib.hid hb
        have HML := Lib.hid hml
        clear hKd hbin hb hml
        go_wp2_with fail
        refine NC.out.mono ?_
        rintro e w5 ⟨rfl, k5⟩
        rw [← HBn.out]
        have K5 : Keeps (fun _ => False) w4 w5 := (Keeps.refl _ _).drew.trans k5 (fun _ _ h => h)
        have H5 := HK4.out.keep K5 (fun _ _ _ h => h)
        have f1 := H5.c1
        have ff := H5.fz 1
        have DC := Lib.hid (del_any72 w5 (.slice A3 (N + 1) c3) (N + 1) b (b + 1) (flatK (insK L 0 (a, x))) (by have h := H5.own; rw [HML.out] at h; exact h) (flatK_one _) (by omega) (by omega) (by omega))
        have HD : Hid (∀ w6 v6, w6.ownsRow 0 72 2 v6 (N + 1 - (b + 1 - b)) ((flatK (insK L 0 (a, x))).take (b * 2) ++ (flatK (insK L 0 (a, x))).drop ((b + 1) * 2)) → w5.grownBy w6 (Value.slice A3 (N + 1) c3).ownBlock → v6.ownBlock = (Value.slice A3 (N + 1) c3).ownBlock →
            PutNew S kp most L a x w (.returned (.tuple #[])) (w6.setCell ⟨kp, 1, none⟩ v6) ∧ w6.cell? ⟨kp, 1, none⟩ = some (.slice A3 (N + 1) c3) ∧ w6.frozen? ⟨kp, 1, none⟩ = false) := fun w6 v6 ho hg hb6 => by
          have hsz : (w6.setCell ⟨kp, 1, none⟩ v6).heap.size = w6.heap.size := by simp
          have s45 := K5.size
          have s56 := hg.size
          have h := H5.into (T := fun k => S k ∨ (w.heap.size ≤ k ∧ k < (w6.setCell ⟨kp, 1, none⟩ v6).heap.size)) hg (v5 := v6) (M := delK (insK L 0 (a, x)) b) (by
            rw [delK_length _ _ (by rw [HML.out]; exact hbN), HML.out, ← flatK_del _ b (by rw [HML.out]; exact hbN)]
            rw [show N + 1 - (b + 1 - b) = N + 1 - 1 by omega] at ho
            exact ho) (fun k hk => by
            obtain ⟨q1, q2⟩ := H5.vb k (by rw [← hb6]; exact hk)
            refine ⟨?_, q2⟩
            rcases q1 with q1 | q1
            · exact .inl q1
            · exact .inr ⟨q1.1, by rw [hsz]; omega⟩) (fun k hk => by
            rcases hk with q1 | q1
            · exact .inl q1
            · exact .inr ⟨q1.1, by rw [hsz]; omega⟩) (up_del H5.up)
          have hk : w6.heap[kp]? = w5.heap[kp]? := hg.block kp H5.lt fun e => (H5.vb kp e.symm).2 rfl
          refine ⟨⟨0, v6, rfl, HB.out.1, HB.out.2.1, HB.out.2.2, ?_, ?_⟩, (World.cell?_of_block (w := w5) (a := ⟨kp, 1, none⟩) hk).trans f1, (World.frozen?_of_block (w := w5) (a := ⟨kp, 1, none⟩) hk).trans ff⟩
          · unfold newK
            rw [if_pos (by rw [← HN.out]; exact hm), show L.length - 1 = (insK L 0 (a, x)).length - 2 by rw [insK_length]; omega, ← HBn.out]
            exact h.1
          · exact (Hk4.out.trans K5 (fun _ _ h => h.elim)).trans h.2 (fun k hk q => by rcases q with q | q; exact q; omega)
        clear k5 K5 H5
        go_wp2_with fail
        refine DC.out.mono ?_
        rintro e w6 ⟨v6, rfl, ho, hg, hb6⟩
        obtain ⟨A6, c6, rfl⟩ := own_formk ho
        obtain ⟨hf, p1, p2⟩ := HD.out w6 _ ho hg hb6
        rw [show N + 1 - (b + 1 - b) = N by omega] at hf
        have HF := Lib.hid hf
        clear hf ho hg hb6
        go_wp2
        exact bodyPost_ret (v := .tuple #[]) (by simp [results, Try.results14, go_sem]) rfl HF.out
      · have hd : decide (max most 1 < (N : Int) + 1) = false := decide_eq_false hm
        have hfin : PutNew S kp most L a x w (.returned (.tuple #[])) w4.drew := ⟨0, _, rfl, HB.out.1, HB.out.2.1, HB.out.2.2, by
          unfold newK
          rw [if_neg (by rw [← HN.out]; exact hm)]
          exact HK4.out.keep (T := fun _ => False) (Keeps.refl _ _).drew (fun _ _ _ h => h), Hk4.out.drew⟩
        have HF := Lib.hid hfin
        clear hfin
        go_wp2
        exact bodyPost_ret (v := .tuple #[]) (by simp [results, Try.results14, go_sem]) rfl HF.out
  · obtain ⟨s, rfl⟩ : ∃ s, r = s + 1 := ⟨r - 1, by omega⟩
    obtain ⟨g, y, rfl, hya, d0⟩ := hg s rfl
    have IC2 := IC.out
    rw [show (((s + 1 : Nat)) : Int) = (s : Int) + 1 by omega] at IC2
    have IC3 := Lib.hid IC2
    have sN : (s : Int) < (N : Int) := by omega
    have s0 : (0 : Int) ≤ (s : Int) := by omega
    have s1 : IntKind.i64.wrap (s : Int) = (s : Int) := IntWalk.i64_in _ (by omega)
    have s2 : (0 : Int) < (s : Int) + 1 := by omega
    have hyd : decide (y = a) = false := decide_eq_false hya
    clear hg IC2
    go_wp2_with fail
    rw [← HW2.out]
    refine IC3.out.mono ?_
    rintro e w3 ⟨v3, rfl, ho, hg3, hb3⟩
    obtain ⟨A3, c3, rfl⟩ := own_formk ho
    obtain ⟨hK4, hk4, q1, qf⟩ := HI.out w3 _ ho hg3 hb3
    obtain ⟨w4, hw4⟩ : ∃ w4 : World, w4 = w3.setCell ⟨kp, 1, none⟩ (.slice A3 (N + 1) c3) := ⟨_, rfl⟩
    rw [← hw4] at hK4 hk4
    have e0 := hK4.c0
    have e1 := hK4.c1
    have HK4 := Lib.hid hK4
    have Hk4 := Lib.hid hk4
    have HW4 := Lib.hid hw4
    have hwn : IntKind.i64.wrap ((N : Int) + 1) = (N : Int) + 1 := IntWalk.i64_in _ (by omega)
    clear ho hg3 hb3 hK4 hk4 hw4
    go_wp2_with fail
    try rw [← HW4.out]
    go_region
    all_goals
      by_cases hm : max most 1 < (N : Int) + 1
      · have hd : decide (max most 1 < (N : Int) + 1) = true := decide_eq_true hm
        have hml : (insK L (s + 1) (a, x)).length = N + 1 := by rw [insK_length, ← HN.out]
        have hN1 : 1 ≤ N := by omega
        have hKd := HK4.out.keep (T := fun _ => False) (Keeps.refl _ _).drew (fun _ _ _ h => h)
        have NC := Lib.hid (nearest_any w4.drew _ kp most _ _ hKd (by rw [hml]; omega) (by rw [hml]; omega))
        obtain ⟨b, hb⟩ : ∃ b : Nat, b = nearK (insK L (s + 1) (a, x)) ((insK L (s + 1) (a, x)).length - 2) := ⟨_, rfl⟩
        have hbin := nearK_in (insK L (s + 1) (a, x)) ((insK L (s + 1) (a, x)).length - 2)
        rw [← hb] at hbin
        rw [hml] at hbin
        have hbN : b < N + 1 := by omega
        have HBn := Lib.hid hb
        have HML := Lib.hid hml
        clear hKd hbin hb hml
        go_wp2_with fail
        refine NC.out.mono ?_
        rintro e w5 ⟨rfl, k5⟩
        rw [← HBn.out]
        have K5 : Keeps (fun _ => False) w4 w5 := (Keeps.refl _ _).drew.trans k5 (fun _ _ h => h)
        have H5 := HK4.out.keep K5 (fun _ _ _ h => h)
        have f1 := H5.c1
        have ff := H5.fz 1
        have DC := Lib.hid (del_any72 w5 (.slice A3 (N + 1) c3) (N + 1) b (b + 1) (flatK (insK L (s + 1) (a, x))) (by have h := H5.own; rw [HML.out] at h; exact h) (flatK_one _) (by omega) (by omega) (by omega))
        have HD : Hid (∀ w6 v6, w6.ownsRow 0 72 2 v6 (N + 1 - (b + 1 - b)) ((flatK (insK L (s + 1) (a, x))).take (b * 2) ++ (flatK (insK L (s + 1) (a, x))).drop ((b + 1) * 2)) → w5.grownBy w6 (Value.slice A3 (N + 1) c3).ownBlock → v6.ownBlock = (Value.slice A3 (N + 1) c3).ownBlock →
            PutNew S kp most L a x w (.returned (.tuple #[])) (w6.setCell ⟨kp, 1, none⟩ v6) ∧ w6.cell? ⟨kp, 1, none⟩ = some (.slice A3 (N + 1) c3) ∧ w6.frozen? ⟨kp, 1, none⟩ = false) := fun w6 v6 ho hg hb6 => by
          have hsz : (w6.setCell ⟨kp, 1, none⟩ v6).heap.size = w6.heap.size := by simp
          have s45 := K5.size
          have s56 := hg.size
          have h := H5.into (T := fun k => S k ∨ (w.heap.size ≤ k ∧ k < (w6.setCell ⟨kp, 1, none⟩ v6).heap.size)) hg (v5 := v6) (M := delK (insK L (s + 1) (a, x)) b) (by
            rw [delK_length _ _ (by rw [HML.out]; exact hbN), HML.out, ← flatK_del _ b (by rw [HML.out]; exact hbN)]
            rw [show N + 1 - (b + 1 - b) = N + 1 - 1 by omega] at ho
            exact ho) (fun k hk => by
            obtain ⟨q1, q2⟩ := H5.vb k (by rw [← hb6]; exact hk)
            refine ⟨?_, q2⟩
            rcases q1 with q1 | q1
            · exact .inl q1
            · exact .inr ⟨q1.1, by rw [hsz]; omega⟩) (fun k hk => by
            rcases hk with q1 | q1
            · exact .inl q1
            · exact .inr ⟨q1.1, by rw [hsz]; omega⟩) (up_del H5.up)
          have hk : w6.heap[kp]? = w5.heap[kp]? := hg.block kp H5.lt fun e => (H5.vb kp e.symm).2 rfl
          refine ⟨⟨s + 1, v6, rfl, HB.out.1, HB.out.2.1, HB.out.2.2, ?_, ?_⟩, (World.cell?_of_block (w := w5) (a := ⟨kp, 1, none⟩) hk).trans f1, (World.frozen?_of_block (w := w5) (a := ⟨kp, 1, none⟩) hk).trans ff⟩
          · unfold newK
            rw [if_pos (by rw [← HN.out]; exact hm), show L.length - 1 = (insK L (s + 1) (a, x)).length - 2 by rw [insK_length]; omega, ← HBn.out]
            exact h.1
          · exact (Hk4.out.trans K5 (fun _ _ h => h.elim)).trans h.2 (fun k hk q => by rcases q with q | q; exact q; omega)
        clear k5 K5 H5
        go_wp2_with fail
        refine DC.out.mono ?_
        rintro e w6 ⟨v6, rfl, ho, hg, hb6⟩
        obtain ⟨A6, c6, rfl⟩ := own_formk ho
        obtain ⟨hf, p1, p2⟩ := HD.out w6 _ ho hg hb6
        rw [show N + 1 - (b + 1 - b) = N by omega] at hf
        have HF := Lib.hid hf
        clear hf ho hg hb6
        go_wp2
        exact bodyPost_ret (v := .tuple #[]) (by simp [results, Try.results14, go_sem]) rfl HF.out
      · have hd : decide (max most 1 < (N : Int) + 1) = false := decide_eq_false hm
        have hfin : PutNew S kp most L a x w (.returned (.tuple #[])) w4.drew := ⟨s + 1, _, rfl, HB.out.1, HB.out.2.1, HB.out.2.2, by
          unfold newK
          rw [if_neg (by rw [← HN.out]; exact hm)]
          exact HK4.out.keep (T := fun _ => False) (Keeps.refl _ _).drew (fun _ _ _ h => h), Hk4.out.drew⟩
        have HF := Lib.hid hfin
        clear hfin
        go_wp2
        exact bodyPost_ret (v := .tuple #[]) (by simp [results, Try.results14, go_sem]) rfl HF.out

end Go.Proofs.Ytpighdioomjnmab
