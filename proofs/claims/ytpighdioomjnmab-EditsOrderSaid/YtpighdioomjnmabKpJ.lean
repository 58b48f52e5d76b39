/-
  Layer 14: slices.Delete wherever it is; the contract of Drop of numbers. Written by an AI agent.
-/
import Derived.Test.YtpighdioomjnmabKpI
import Derived.Deep.RegionWith
namespace Go.Proofs.Ytpighdioomjnmab
open Go.RowKit Go.Shelf
set_option linter.unusedVariables false
set_option linter.unusedSimpArgs false

set_option maxRecDepth 100000 in
set_option maxHeartbeats 1000000 in
theorem del_none72 (w : World) (v : Value) (n i : Nat) (xs : List Value) (hown : w.ownsRow 0 72 2 v n xs) (hn : n ≤ 1000) (hin : i ≤ n) :
    Calls Try.prog 40 #[v, .int .i64 (i : Int), .int .i64 (i : Int)] w (Deleted72 v n xs i i w) := by
  have hfin : Deleted72 v n xs i i w (.returned v) w := ⟨v, rfl, by rw [Nat.sub_self, Nat.sub_zero, List.take_append_drop]; exact hown, World.grownBy.refl w _, rfl⟩
  have HF := Lib.hid hfin
  rcases hown.2 with ⟨rfl, rfl⟩ | ⟨g, c, cur, rfl, _, _, hnc, hcm, _⟩
  · obtain rfl : i = 0 := by omega
    clear hfin hown
    go_enter Try.func40, Try.ntmps40
    go_wp2
    go_ret
    exact HF.out
  · have hc63 : c ≤ 9223372036854775807 := hcm
    have hi0 : (0 : Int) ≤ (i : Int) := by omega
    have hinI : (i : Int) ≤ (n : Int) := by omega
    have hncI : (n : Int) ≤ (c : Int) := by omega
    clear hfin hown hcm
    by_cases hni : n = i
    · subst hni
      go_enter Try.func40, Try.ntmps40
      go_wp2
      all_goals
        go_ret
        exact HF.out
    · go_enter Try.func40, Try.ntmps40
      go_wp2
      all_goals
        go_ret
        exact HF.out

theorem del_any72 (w : World) (v : Value) (n i j : Nat) (xs : List Value) (hown : w.ownsRow 0 72 2 v n xs) (hx1 : ∀ u ∈ xs, u.oneCell' = true) (hn : n ≤ 1000) (hij : i ≤ j) (hjn : j ≤ n) :
    Calls Try.prog 40 #[v, .int .i64 (i : Int), .int .i64 (j : Int)] w (Deleted72 v n xs i j w) := by
  rcases Nat.lt_or_ge i j with h | h
  · rcases hown.2 with ⟨_, h0⟩ | ⟨g, cap, cur, rfl, _⟩
    · omega
    · exact del_some72 w g cap n i j xs hown hx1 hn h hjn
  · obtain rfl : i = j := by omega
    exact del_none72 w v n i xs hown hn hjn

theorem own_formk {w : World} {b e size : Nat} {v : Value} {n : Nat} {xs : List Value} (h : w.ownsRow b e size v n xs) : ∃ A c, v = .slice A n c := by
  rcases h.2 with ⟨e1, h0⟩ | ⟨g, cap, cur, e1, _⟩
  · exact ⟨none, 0, by rw [e1, h0]⟩
  · exact ⟨_, cap, e1⟩

theorem flatK_append (L M : List (Int × Int)) : flatK (L ++ M) = flatK L ++ flatK M := by simp [flatK]
theorem flatK_take (L : List (Int × Int)) (r : Nat) (h : r ≤ L.length) : (flatK L).take (r * 2) = flatK (L.take r) := by
  have e : flatK L = flatK (L.take r) ++ flatK (L.drop r) := by rw [← flatK_append, List.take_append_drop]
  rw [e]
  exact List.take_left' (by rw [flatK_length, List.length_take]; omega)
theorem flatK_drop (L : List (Int × Int)) (r : Nat) (h : r ≤ L.length) : (flatK L).drop (r * 2) = flatK (L.drop r) := by
  have e : flatK L = flatK (L.take r) ++ flatK (L.drop r) := by rw [← flatK_append, List.take_append_drop]
  rw [e]
  exact List.drop_left' (by rw [flatK_length, List.length_take]; omega)

/-- What was changed in a Keep's slice, and then laid into it. -/
theorem KeepIs.into {w w5 : World} {S T : Nat → Prop} {kp : Nat} {most : Int} {v v5 : Value} {L M : List (Int × Int)} (H : KeepIs w S kp most v L) (hg : w.grownBy w5 v.ownBlock) (hown : w5.ownsRow 0 72 2 v5 M.length (flatK M))
    (hT : ∀ k, v5.ownBlock = some k → T k ∧ k ≠ kp) (hST : ∀ k, S k → T k) (hup : ∀ i j, i < j → j < M.length → (M.getD i (0, 0)).1 < (M.getD j (0, 0)).1) :
    KeepIs (w5.setCell ⟨kp, 1, none⟩ v5) T kp most v5 M ∧ Keeps S w (w5.setCell ⟨kp, 1, none⟩ v5) := by
  have hk : w5.heap[kp]? = w.heap[kp]? := hg.block kp H.lt fun e => (H.vb kp e.symm).2 rfl
  have c1 : w5.cell? ⟨kp, 1, none⟩ = some v := (World.cell?_of_block (w := w) (a := ⟨kp, 1, none⟩) hk).trans H.c1
  have c0 : w5.cell? ⟨kp, 0, none⟩ = some (.int .i64 most) := (World.cell?_of_block (w := w) (a := ⟨kp, 0, none⟩) hk).trans H.c0
  have hsz : (w5.setCell ⟨kp, 1, none⟩ v5).heap.size = w5.heap.size := by simp
  refine ⟨⟨(World.cell?_setCell_other w5 _ _ _ (by simp)).trans c0, World.cell?_setCell_same' w5 _ _ (by rw [c1]; rfl), fun k => ?_, by rw [hsz]; exact Nat.lt_of_lt_of_le H.lt hg.size, hST _ H.sp, ?_, hT, hup⟩, ?_⟩
  · rw [World.frozen?_setCell]
    exact (World.frozen?_of_block (w := w) (a := ⟨kp, k, none⟩) hk).trans (H.fz k)
  · exact ownsRow_keep hown fun k hv => Below.heap_setCell w5 _ _ k (hT k hv).2
  · exact ((Keeps.refl S w).grown hg fun k hk _ => (H.vb k hk).1).setCell (fun _ => H.sp) _

/-- What Drop leaves. -/
def Dropped (S : Nat → Prop) (kp : Nat) (most : Int) (L : List (Int × Int)) (x : Int) (w : World) (e : Ending) (w' : World) : Prop :=
  ∃ (r : Nat) (v' : Value), e = .returned (.tuple #[]) ∧ r ≤ L.length ∧ (∀ t, t < r → (L.getD t (0, 0)).1 ≤ x) ∧ (∀ t, r ≤ t → t < L.length → x < (L.getD t (0, 0)).1) ∧ KeepIs w' S kp most v' (L.take r) ∧ Keeps S w w'

set_option maxRecDepth 100000 in
set_option maxHeartbeats 2000000 in
theorem drop_any (w : World) (S : Nat → Prop) (kp : Nat) (most : Int) (v : Value) (L : List (Int × Int)) (H : KeepIs w S kp most v L) (hn : L.length ≤ 1000) (x : Int) :
    Calls Try.prog 18 #[.pointer (some ⟨kp, 0, none⟩), .int .i64 x] w (Dropped S kp most L x w) := by
  have BC := Lib.hid (behind_any w S kp most v L H hn x)
  have HH := Lib.hid H
  obtain ⟨A, c, rfl⟩ : ∃ A c, v = .slice A L.length c := by
    rcases H.own.2 with ⟨e1, h0⟩ | ⟨g, cap, cur, e1, _⟩
    · exact ⟨none, 0, by rw [e1, h0]⟩
    · exact ⟨_, cap, e1⟩
  clear H
  go_enter Try.func18, Try.ntmps18
  go_wp2_with fail
  refine BC.out.mono ?_
  rintro e w1 ⟨r, rfl, k1, h1, h2, h3⟩
  have H1 := HH.out.keep k1.drew (fun _ _ _ h => h)
  have c1 := H1.c1
  have fz := H1.fz 1
  have DC := Lib.hid (del_any72 w1.drew (.slice A L.length c) L.length r L.length (flatK L) H1.own (flatK_one L) hn h1 (Nat.le_refl _))
  have HI : Hid (∀ w5 v5, w5.ownsRow 0 72 2 v5 (L.length - (L.length - r)) ((flatK L).take (r * 2) ++ (flatK L).drop (L.length * 2)) → w1.drew.grownBy w5 (Value.slice A L.length c).ownBlock → v5.ownBlock = (Value.slice A L.length c).ownBlock →
      KeepIs (w5.setCell ⟨kp, 1, none⟩ v5) S kp most v5 (L.take r) ∧ Keeps S w (w5.setCell ⟨kp, 1, none⟩ v5) ∧ w5.cell? ⟨kp, 1, none⟩ = some (.slice A L.length c) ∧ w5.frozen? ⟨kp, 1, none⟩ = false) := fun w5 v5 ho hg hb => by
    have hl : (L.take r).length = r := by rw [List.length_take]; omega
    have h := H1.into (T := S) hg (v5 := v5) (M := L.take r) (by
      rw [hl, ← flatK_take L r h1]
      rw [List.drop_of_length_le (by rw [flatK_length]; exact Nat.le_refl _), List.append_nil, show L.length - (L.length - r) = r by omega] at ho
      exact ho) (fun k hk => H1.vb k (by rw [← hb]; exact hk)) (fun _ h => h) (fun i j hij hj => by
      rw [hl] at hj
      rw [List.getD_eq_getElem?_getD, List.getD_eq_getElem?_getD, List.getElem?_take, List.getElem?_take, if_pos (by omega), if_pos hj, ← List.getD_eq_getElem?_getD, ← List.getD_eq_getElem?_getD]
      exact H1.up i j hij (by omega))
    have hk : w5.heap[kp]? = w1.drew.heap[kp]? := hg.block kp H1.lt fun e => (H1.vb kp e.symm).2 rfl
    exact ⟨h.1, (k1.drew.mono (T := S) (fun _ _ h => h.elim)).trans h.2 (fun _ _ h => h), (World.cell?_of_block (w := w1.drew) (a := ⟨kp, 1, none⟩) hk).trans c1, (World.frozen?_of_block (w := w1.drew) (a := ⟨kp, 1, none⟩) hk).trans fz⟩
  have HB := Lib.hid (And.intro h1 (And.intro h2 h3))
  obtain ⟨N, hN⟩ : ∃ N : Nat, N = L.length := ⟨_, rfl⟩
  rw [← hN] at c1 DC HI hn
  clear h1 h2 h3 k1 H1 hN
  simp only [World.cell?_drew, World.frozen?_drew] at c1 fz
  go_wp2_with fail
  go_region_with (go_at_call 40; refine DC.out.mono ?_; rintro e w5 ⟨v5, rfl, ho, hg, hb⟩; obtain ⟨A5, c5, rfl⟩ := own_formk ho; have hi := HI.out _ _ ho hg hb; have HI5 := Lib.hid (And.intro hi.1 hi.2.1); have q1 := hi.2.2.1; have qf := hi.2.2.2; clear ho hg hb hi)
  all_goals
    go_wp2
    exact bodyPost_ret (v := .tuple #[]) (by simp [results, Try.results18, go_sem]) rfl ⟨r, _, rfl, HB.out.1, HB.out.2.1, HB.out.2.2, HI5.out.1, HI5.out.2⟩

end Go.Proofs.Ytpighdioomjnmab
