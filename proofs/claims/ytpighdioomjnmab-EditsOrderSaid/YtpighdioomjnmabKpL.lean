/-
  Layer 14: the contract of nearest of numbers. Written by an AI agent.
-/
import Derived.Test.YtpighdioomjnmabKpK
import Derived.Deep.DeepCutAuto
import Derived.Deep.CutBlock
import Derived.Deep.CutRange
namespace Go.Proofs.Ytpighdioomjnmab
open Go.RowKit Go.Shelf
set_option linter.unusedVariables false
set_option linter.unusedSimpArgs false

/-- How far a thing is behind the one ahead of it. -/
def gapK (L : List (Int × Int)) (i : Nat) : Int := IntKind.u64.wrap (IntKind.u64.wrap (L.getD i (0, 0)).1 - IntKind.u64.wrap (L.getD (i - 1) (0, 0)).1)

/-- The place of the least gap of the first k, but the first. -/
def nearK (L : List (Int × Int)) : Nat → Nat
  | 0 => 1
  | k + 1 => if gapK L (k + 2) < gapK L (nearK L k) then k + 2 else nearK L k

set_option maxRecDepth 100000 in
set_option maxHeartbeats 2000000 in
theorem gap_asks (W : World) (P kp g n c i : Nat) (x y : Int) (hp : W.cell? ⟨P, 0, none⟩ = some (.pointer (some ⟨kp, 0, none⟩))) (hl : W.cell? ⟨kp, 1, none⟩ = some (.slice (some ⟨g, 0, none⟩) n c)) (hc : W.cell? ⟨g, (i + 1) * 2, none⟩ = some (.int .i64 y)) (hx : W.cell? ⟨g, i * 2, none⟩ = some (.int .i64 x)) (hi : i + 1 < n) (hn : n ≤ 1000) :
    Calls Try.prog 57 (#[.int .i64 ((i + 1 : Nat) : Int)] ++ #[.pointer (some ⟨P, 0, none⟩)]) W fun e w' => e = .returned (.int .u64 (IntKind.u64.wrap (IntKind.u64.wrap y - IntKind.u64.wrap x))) ∧ ∃ q, w' = W.drewN q := by
  have hiz : (i : Int) < (n : Int) := by omega
  have hiz1 : (i : Int) + 1 < (n : Int) := by omega
  have hi0 : (0 : Int) ≤ (i : Int) := by omega
  have hi1 : (0 : Int) ≤ (i : Int) + 1 := by omega
  have htn : ((i : Int) + 1).toNat = i + 1 := by omega
  have s1 : IntKind.i64.wrap (i : Int) = (i : Int) := IntWalk.i64_in _ (by omega)
  rw [show (((i + 1 : Nat) : Int)) = (i : Int) + 1 by omega]
  go_enter Try.func57, Try.ntmps57
  go_wp2
  go_region
  all_goals go_wp2
  all_goals go_ret
  all_goals exact ⟨rfl, 1, rfl⟩

theorem nearK_in (L : List (Int × Int)) (k : Nat) : 1 ≤ nearK L k ∧ nearK L k ≤ k + 1 := by
  induction k with
  | zero => exact ⟨Nat.le_refl _, Nat.le_refl _⟩
  | succ k ih =>
    unfold nearK
    split <;> omega

/-- What nearest tells. -/
def GotNear (L : List (Int × Int)) (w : World) (e : Ending) (w' : World) : Prop := e = .returned (.int .i64 ((nearK L (L.length - 2) : Nat) : Int)) ∧ Keeps (fun _ => False) w w'

set_option maxRecDepth 100000 in
set_option maxHeartbeats 2000000 in
theorem nearest_any (w : World) (S : Nat → Prop) (kp : Nat) (most : Int) (v : Value) (L : List (Int × Int)) (H : KeepIs w S kp most v L) (hn : L.length ≤ 1000) (h2 : 2 ≤ L.length) :
    Calls Try.prog 39 #[.pointer (some ⟨kp, 0, none⟩)] w (GotNear L w) := by
  obtain ⟨W0, hW0⟩ : ∃ W0, W0 = w.alloc (.cells #[.pointer (some ⟨kp, 0, none⟩)] 24) := ⟨_, rfl⟩
  obtain ⟨P, hP⟩ : ∃ P : Nat, P = w.heap.size := ⟨_, rfl⟩
  have k0 : Keeps (fun _ => False) w W0 := by rw [hW0]; exact (Keeps.refl _ w).alloc _
  have H0 := H.keep k0 (fun _ _ _ h => h)
  have cp : W0.cell? ⟨P, 0, none⟩ = some (.pointer (some ⟨kp, 0, none⟩)) := by rw [hW0, hP]; exact Go.Proofs.cell_new_sl w _ _
  have hPl : P < W0.heap.size := by rw [hW0, hP]; simp
  obtain ⟨g, c, hv⟩ : ∃ g c, v = .slice (some ⟨g, 0, none⟩) L.length c := by
    rcases H0.own.2 with ⟨_, h0⟩ | ⟨g, cap, cur, e1, _⟩
    · omega
    · exact ⟨g, cap, e1⟩
  have c1 := H0.c1
  have hgap : ∀ wr, Keeps (fun _ => False) W0 wr → ∀ i, 1 ≤ i → i < L.length → Calls Try.prog 57 #[.int .i64 (i : Int), .pointer (some ⟨P, 0, none⟩)] wr fun e w' => e = .returned (.int .u64 (gapK L i)) ∧ Keeps (fun _ => False) W0 w' := fun wr hk i h1 hi => by
    obtain ⟨j, rfl⟩ : ∃ j, i = j + 1 := ⟨i - 1, by omega⟩
    have H1 := H0.keep hk (fun _ _ _ h => h)
    have c1' := H1.c1
    have ho := H1.own
    rw [hv] at c1' ho
    have d1 := ho.cellAt ((j + 1) * 2) (by omega)
    have d0 := ho.cellAt (j * 2) (by omega)
    rw [(flatK_at L (j + 1) hi).1] at d1
    rw [(flatK_at L j (by omega)).1] at d0
    have h := gap_asks wr P kp g L.length c j _ _ ((hk.cell hPl (fun h => h)).trans cp) c1' d1 d0 hi hn
    have e : (#[Value.int .i64 ((j + 1 : Nat) : Int)] ++ #[Value.pointer (some ⟨P, 0, none⟩)] : Array Value) = #[.int .i64 ((j + 1 : Nat) : Int), .pointer (some ⟨P, 0, none⟩)] := by simp
    rw [e] at h
    refine h.mono ?_
    rintro e w' ⟨rfl, q, rfl⟩
    refine ⟨by unfold gapK; rw [Nat.add_sub_cancel], hk.trans (T := fun _ => False) ⟨rfl, rfl, rfl, Nat.le_refl _, fun _ _ _ => rfl⟩ (fun _ _ h => h)⟩
  rw [hv] at c1
  obtain ⟨N, hN⟩ : ∃ N : Nat, N = L.length := ⟨_, rfl⟩
  rw [← hN] at c1 hn h2 hgap
  have HGap := Lib.hid hgap
  have K0 := Lib.hid k0
  have C1 := Lib.hid c1
  have CP := Lib.hid cp
  have HN := Lib.hid hN
  have HW := Lib.hid hW0
  have hkl := Lib.hid H0.lt
  clear H H0 hv hgap hN k0 c1 cp
  go_enter Try.func39, Try.ntmps39
  go_upto_block 0 with fail
  rw [← HW.out, ← hP]
  clear hW0
  have hP' := Lib.hid hP
  clear hP
  go_wp2_with fail
  go_loopw [3, 5] (fun s3 s5 wr => ∃ k : Nat, k + 2 ≤ N ∧ s3 = .int .i64 ((nearK L k : Nat) : Int) ∧ s5 = .int .i64 ((k : Int) + 2) ∧ Keeps (fun _ => False) W0 wr) (fun _ s5 _ => N - (intOf s5).toNat)
  case atStart => exact ⟨0, by omega, rfl, rfl, Keeps.refl _ _⟩
  case round =>
    obtain ⟨k, hk, rfl, rfl, hkr⟩ := hrel
    have c1 := (hkr.cell hkl.out (fun h => h)).trans C1.out
    have cp := (hkr.cell hPl (fun h => h)).trans CP.out
    obtain ⟨b, hb⟩ : ∃ b : Nat, b = nearK L k := ⟨_, rfl⟩
    have hbin := nearK_in L k
    rw [← hb] at hbin ⊢
    by_cases hlt : k + 2 < N
    · have hlt' : (k : Int) + 2 < (N : Int) := by omega
      obtain ⟨X, hX⟩ : ∃ X : Int, X = gapK L (k + 2) := ⟨_, rfl⟩
      obtain ⟨Y, hY⟩ : ∃ Y : Int, Y = gapK L b := ⟨_, rfl⟩
      have G1 := HGap.out wr hkr (k + 2) (by omega) hlt
      rw [← hX, show (((k + 2 : Nat)) : Int) = (k : Int) + 2 by omega] at G1
      have G2 : Hid (∀ w', Keeps (fun _ => False) W0 w' → Calls Try.prog 57 #[.int .i64 (b : Int), .pointer (some ⟨P, 0, none⟩)] w' fun e w'' => e = .returned (.int .u64 Y) ∧ Keeps (fun _ => False) W0 w'') := fun w' hk' => by rw [hY]; exact HGap.out w' hk' b hbin.1 (by omega)
      have G1h := Lib.hid G1
      have hnext : nearK L (k + 1) = if X < Y then k + 2 else b := by rw [hX, hY, hb]; rfl
      have HX := Lib.hid hnext
      have HKr := Lib.hid hkr
      clear G1 hnext hX hY hb hkr
      by_cases hxy : X < Y
      · have hd : decide (X < Y) = true := decide_eq_true hxy
        go_wp2_with fail
        refine G1h.out.mono ?_
        rintro e w1 ⟨rfl, hk1⟩
        have HK1 := Lib.hid hk1
        clear hk1
        go_wp2_with fail
        refine (G2.out w1 HK1.out).mono ?_
        rintro e w2 ⟨rfl, hk2⟩
        have HK2 := Lib.hid hk2
        clear hk2
        go_wp2
        go_roundw
        case rel => exact ⟨k + 1, by omega, by rw [HX.out, if_pos hxy]; go_num, by go_num, HK2.out⟩
        case measure => simp [intOf]; omega
      · have hd : decide (X < Y) = false := decide_eq_false hxy
        go_wp2_with fail
        refine G1h.out.mono ?_
        rintro e w1 ⟨rfl, hk1⟩
        have HK1 := Lib.hid hk1
        clear hk1
        go_wp2_with fail
        refine (G2.out w1 HK1.out).mono ?_
        rintro e w2 ⟨rfl, hk2⟩
        have HK2 := Lib.hid hk2
        clear hk2
        go_wp2
        go_roundw
        case rel => exact ⟨k + 1, by omega, by rw [HX.out, if_neg (by omega)], by go_num, HK2.out⟩
        case measure => simp [intOf]; omega
    · have hlt' : ¬ ((k : Int) + 2 < (N : Int)) := by omega
      have hd : decide ((k : Int) + 2 < (N : Int)) = false := decide_eq_false hlt'
      have hkN : L.length - 2 = k := by rw [← HN.out]; omega
      have HB := Lib.hid hb
      have HKr := Lib.hid hkr
      have HKN := Lib.hid hkN
      clear hb hkr hkN
      go_wp2
      go_ret
      exact ⟨by rw [HKN.out, ← HB.out]; rfl, K0.out.trans HKr.out (fun _ _ h => h)⟩

end Go.Proofs.Ytpighdioomjnmab
