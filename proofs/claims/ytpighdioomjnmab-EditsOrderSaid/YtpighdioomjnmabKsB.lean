/-
  Layer 14: the Keep of strings: slices.Delete, Times, nearest, Put. Written by an AI agent (out of the Keep of numbers' texts, by wip/gen/kps.py).
-/
import Derived.Test.YtpighdioomjnmabKsA
import Derived.Deep.DeepCutAuto
import Derived.Deep.CutBlock
import Derived.Deep.CutRange
namespace Go.Proofs.Ytpighdioomjnmab.Str
open Go.RowKit Go.Shelf Go.Proofs.Ytpighdioomjnmab
set_option linter.unusedVariables false
set_option linter.unusedSimpArgs false


set_option maxRecDepth 100000 in
set_option maxHeartbeats 1000000 in
theorem del_none86 (w : World) (v : Value) (n i : Nat) (xs : List Value) (hown : w.ownsRow 0 86 2 v n xs) (hn : n ≤ 1000) (hin : i ≤ n) :
    Calls Try.prog 52 #[v, .int .i64 (i : Int), .int .i64 (i : Int)] w (Deleted86 v n xs i i w) := by
  have hfin : Deleted86 v n xs i i w (.returned v) w := ⟨v, rfl, by rw [Nat.sub_self, Nat.sub_zero, List.take_append_drop]; exact hown, World.grownBy.refl w _, rfl⟩
  have HF := Lib.hid hfin
  rcases hown.2 with ⟨rfl, rfl⟩ | ⟨g, c, cur, rfl, _, _, hnc, hcm, _⟩
  · obtain rfl : i = 0 := by omega
    clear hfin hown
    go_enter Try.func52, Try.ntmps52
    go_wp2
    go_ret
    exact HF.out
  · have hc63 : c ≤ 9223372036854775807 := hcm
    have hi0 : (0 : Int) ≤ (i : Int) := by omega
    have hinI : (i : Int) ≤ (n : Int) := by omega
    have hncI : (n : Int) ≤ (c : Int) := by omega
    clear hfin hown hcm
    by_cases hni : n = i
    · subst hni
      go_enter Try.func52, Try.ntmps52
      go_wp2
      all_goals
        go_ret
        exact HF.out
    · go_enter Try.func52, Try.ntmps52
      go_wp2
      all_goals
        go_ret
        exact HF.out

theorem del_any86 (w : World) (v : Value) (n i j : Nat) (xs : List Value) (hown : w.ownsRow 0 86 2 v n xs) (hx1 : ∀ u ∈ xs, u.oneCell' = true) (hn : n ≤ 1000) (hij : i ≤ j) (hjn : j ≤ n) :
    Calls Try.prog 52 #[v, .int .i64 (i : Int), .int .i64 (j : Int)] w (Deleted86 v n xs i j w) := by
  rcases Nat.lt_or_ge i j with h | h
  · rcases hown.2 with ⟨_, h0⟩ | ⟨g, cap, cur, rfl, _⟩
    · omega
    · exact del_some86 w g cap n i j xs hown hx1 hn h hjn
  · obtain rfl : i = j := by omega
    exact del_none86 w v n i xs hown hn hjn

theorem flatK_append (L M : List (Int × ByteArray)) : flatK (L ++ M) = flatK L ++ flatK M := by simp [flatK]
theorem flatK_take (L : List (Int × ByteArray)) (r : Nat) (h : r ≤ L.length) : (flatK L).take (r * 2) = flatK (L.take r) := by
  have e : flatK L = flatK (L.take r) ++ flatK (L.drop r) := by rw [← flatK_append, List.take_append_drop]
  rw [e]
  exact List.take_left' (by rw [flatK_length, List.length_take]; omega)
theorem flatK_drop (L : List (Int × ByteArray)) (r : Nat) (h : r ≤ L.length) : (flatK L).drop (r * 2) = flatK (L.drop r) := by
  have e : flatK L = flatK (L.take r) ++ flatK (L.drop r) := by rw [← flatK_append, List.take_append_drop]
  rw [e]
  exact List.drop_left' (by rw [flatK_length, List.length_take]; omega)

/-- What was changed in a Keep's slice, and then laid into it. -/
theorem KeepIs.into {w w5 : World} {S T : Nat → Prop} {kp : Nat} {most : Int} {v v5 : Value} {L M : List (Int × ByteArray)} (H : KeepIs w S kp most v L) (hg : w.grownBy w5 v.ownBlock) (hown : w5.ownsRow 0 86 2 v5 M.length (flatK M))
    (hT : ∀ k, v5.ownBlock = some k → T k ∧ k ≠ kp) (hST : ∀ k, S k → T k) (hup : ∀ i j, i < j → j < M.length → (M.getD i (0, ⟨#[]⟩)).1 < (M.getD j (0, ⟨#[]⟩)).1) :
    KeepIs (w5.setCell ⟨kp, 1, none⟩ v5) T kp most v5 M ∧ Keeps S w (w5.setCell ⟨kp, 1, none⟩ v5) := by
  have hk : w5.heap[kp]? = w.heap[kp]? := hg.block kp H.lt fun e => (H.vb kp e.symm).2 rfl
  have c1 : w5.cell? ⟨kp, 1, none⟩ = some v := (World.cell?_of_block (w := w) (a := ⟨kp, 1, none⟩) hk).trans H.c1
  have c0 : w5.cell? ⟨kp, 0, none⟩ = some (.int .i64 most) := (World.cell?_of_block (w := w) (a := ⟨kp, 0, none⟩) hk).trans H.c0
  have hsz : (w5.setCell ⟨kp, 1, none⟩ v5).heap.size = w5.heap.size := by simp
  refine ⟨⟨(World.cell?_setCell_other w5 _ _ _ (by simp)).trans c0, World.cell?_setCell_same' w5 _ _ (by rw [c1]; rfl), fun k => ?_, by rw [hsz]; exact Nat.lt_of_lt_of_le H.lt hg.size, hST _ H.sp, ?_, hT, hup⟩, ?_⟩
  · rw [World.frozen?_setCell]
    exact (World.frozen?_of_block (w := w) (a := ⟨kp, k, none⟩) hk).trans (H.fz k)
  · exact ownsRow_keep hown fun k hv => Below.heap_setCell w5 _ _ k (hT k hv).2
  · exact ((Keeps.refl S w).grown hg fun k hk _ => (H.vb k hk).1).setCell (fun _ => H.sp) _


/-- The times as values. -/
def tv (L : List (Int × ByteArray)) : List Value := L.map fun p => .int .i64 p.1
theorem tv_snoc (L : List (Int × ByteArray)) (k : Nat) (h : k < L.length) : tv (L.take (k + 1)) = tv (L.take k) ++ [.int .i64 (L.getD k (0, ⟨#[]⟩)).1] := by
  unfold tv
  rw [List.take_succ_eq_append_getElem h, List.map_append, List.getD_eq_getElem?_getD, List.getElem?_eq_getElem h]
  rfl

/-- What Times tells. -/
def GotTimes (L : List (Int × ByteArray)) (w : World) (e : Ending) (w' : World) : Prop :=
  ∃ v', e = .returned v' ∧ w'.ownsRow 0 3 1 v' L.length (tv L) ∧ (∀ j, v'.ownBlock = some j → w.heap.size ≤ j) ∧ Keeps (fun _ => False) w w'

set_option maxRecDepth 100000 in
set_option maxHeartbeats 2000000 in
theorem times_any (w : World) (S : Nat → Prop) (kp : Nat) (most : Int) (v : Value) (L : List (Int × ByteArray)) (H : KeepIs w S kp most v L) (hn : L.length ≤ 1000) :
    Calls Try.prog 36 #[.pointer (some ⟨kp, 0, none⟩)] w (GotTimes L w) := by
  obtain ⟨i0, hi, hz0, hz1, hz2⟩ := info_parts info3k
  have HH := Lib.hid H
  have c1 := H.c1
  obtain ⟨A, c, hv⟩ := own_formk H.own
  have hg : ∀ k, k < L.length → ∃ g, A = some ⟨g, 0, none⟩ ∧ g < w.heap.size ∧ w.cell? ⟨g, k * 2, none⟩ = some (.int .i64 (L.getD k (0, ⟨#[]⟩)).1) ∧ w.cell? ⟨g, k * 2 + 1, none⟩ = some (.string (L.getD k (0, ⟨#[]⟩)).2) := fun k hk => by
    have ho := H.own
    rw [hv] at ho
    rcases ho.2 with ⟨_, h0⟩ | ⟨g, cap, cur, e1, _⟩
    · omega
    · simp only [Value.slice.injEq] at e1
      obtain ⟨rfl, _, rfl⟩ := e1
      exact ⟨g, rfl, own_ltk ho rfl, (ho.cellAt (k * 2) (by omega)).trans (flatK_at L k hk).1, (ho.cellAt (k * 2 + 1) (by omega)).trans (flatK_at L k hk).2⟩
  rw [hv] at c1
  have HG := Lib.hid hg
  obtain ⟨N, hN⟩ : ∃ N : Nat, N = L.length := ⟨_, rfl⟩
  rw [← hN] at c1 hn
  have HN := Lib.hid hN
  clear H hv hg hN
  go_enter Try.func36, Try.ntmps36
  go_wp2_with fail
  go_loopw [3, 11] (fun s3 s11 wr => ∃ k : Nat, k ≤ N ∧ s11 = .int .i64 k ∧ wr.ownsRow 0 3 1 s3 k (tv (L.take k)) ∧ (∀ j, s3.ownBlock = some j → w.heap.size ≤ j) ∧ Keeps (fun _ => False) w wr) (fun _ s11 _ => N - (intOf s11).toNat)
  case atStart => exact ⟨0, Nat.zero_le _, rfl, World.ownsRow_nil _ _ _ _, by simp [Value.ownBlock], Keeps.refl _ _⟩
  case round =>
    obtain ⟨k, hk, rfl, hown, hb, kr⟩ := hrel
    by_cases hkn : k < N
    · have hkn' : (k : Int) < (N : Int) := by omega
      have hk0 : (0 : Int) ≤ (k : Int) := by omega
      have hkL : k < L.length := by rw [← HN.out]; exact hkn
      obtain ⟨g, rfl, hgl, d0, d1⟩ := HG.out k hkL
      replace d0 := (kr.cell hgl (fun h => h)).trans d0
      replace d1 := (kr.cell hgl (fun h => h)).trans d1
      have hts := tv_snoc L k hkL
      obtain ⟨y, hy⟩ : ∃ y : Int, y = (L.getD k (0, ⟨#[]⟩)).1 := ⟨_, rfl⟩
      obtain ⟨z, hz⟩ : ∃ z : ByteArray, z = (L.getD k (0, ⟨#[]⟩)).2 := ⟨_, rfl⟩
      rw [← hy] at d0 hts
      rw [← hz] at d1
      have hsr := kr.size
      have HO := Lib.hid hown
      have HBk := Lib.hid hb
      have KR := Lib.hid kr
      have HT := Lib.hid hts
      clear hown hb kr hts hy hz hgl
      go_wp2_with (at_builtin; refine wpList_append_atk rfl (.tmp 15) (.tmp 18) 35 rfl 0 3 i0 _ 1 8 Try.underlying35 hi hz0 hz1 hz2 (by rfl) (by omega) _ k (tv (L.take k)) (by rfl) ((HO.out.alloc _).alloc _) ⟨wr.heap.size + 1, 0, none⟩ 1 1 [.int .i64 y] (by rfl) (by rfl) (news1 _ _ (by simp)) (by simp [Value.oneCell']) (by omega) (by omega) (Nat.zero_le _) ?_
                   intro v5 w5 h5 g5 b5
                   have H5 := Lib.hid h5
                   have G5 := Lib.hid g5
                   have B5 := Lib.hid b5
                   clear h5 g5 b5)
      go_roundw
      case rel =>
        refine ⟨k + 1, by omega, by go_num, by rw [HT.out]; exact H5.out, fun j hj => ?_, (((KR.out.alloc _).alloc _).grown G5.out (fun j hj hlt => ?_))⟩
        · rcases B5.out with e | e
          · exact HBk.out j (e.symm.trans hj)
          · rw [e] at hj
            have := Option.some.inj hj
            simp at this
            omega
        · have := HBk.out j hj
          omega
      case measure => simp [intOf]; omega
    · obtain rfl : k = N := by omega
      have hd : decide (k < k) = false := by simp
      rw [List.take_of_length_le (by rw [← HN.out]; exact Nat.le_refl _)] at hown
      obtain ⟨A5, c5, rfl⟩ := own_formk hown
      have HO := Lib.hid hown
      have HBk := Lib.hid hb
      have KR := Lib.hid kr
      clear hown hb kr
      go_wp2
      go_ret
      exact ⟨_, rfl, by rw [← HN.out]; exact HO.out, HBk.out, KR.out⟩

/-- How far a thing is behind the one ahead of it. -/
def gapK (L : List (Int × ByteArray)) (i : Nat) : Int := IntKind.u64.wrap (IntKind.u64.wrap (L.getD i (0, ⟨#[]⟩)).1 - IntKind.u64.wrap (L.getD (i - 1) (0, ⟨#[]⟩)).1)

/-- The place of the least gap of the first k, but the first. -/
def nearK (L : List (Int × ByteArray)) : Nat → Nat
  | 0 => 1
  | k + 1 => if gapK L (k + 2) < gapK L (nearK L k) then k + 2 else nearK L k

set_option maxRecDepth 100000 in
set_option maxHeartbeats 2000000 in
theorem gap_asks (W : World) (P kp g n c i : Nat) (x y : Int) (hp : W.cell? ⟨P, 0, none⟩ = some (.pointer (some ⟨kp, 0, none⟩))) (hl : W.cell? ⟨kp, 1, none⟩ = some (.slice (some ⟨g, 0, none⟩) n c)) (hc : W.cell? ⟨g, (i + 1) * 2, none⟩ = some (.int .i64 y)) (hx : W.cell? ⟨g, i * 2, none⟩ = some (.int .i64 x)) (hi : i + 1 < n) (hn : n ≤ 1000) :
    Calls Try.prog 63 (#[.int .i64 ((i + 1 : Nat) : Int)] ++ #[.pointer (some ⟨P, 0, none⟩)]) W fun e w' => e = .returned (.int .u64 (IntKind.u64.wrap (IntKind.u64.wrap y - IntKind.u64.wrap x))) ∧ ∃ q, w' = W.drewN q := by
  have hiz : (i : Int) < (n : Int) := by omega
  have hiz1 : (i : Int) + 1 < (n : Int) := by omega
  have hi0 : (0 : Int) ≤ (i : Int) := by omega
  have hi1 : (0 : Int) ≤ (i : Int) + 1 := by omega
  have htn : ((i : Int) + 1).toNat = i + 1 := by omega
  have s1 : IntKind.i64.wrap (i : Int) = (i : Int) := IntWalk.i64_in _ (by omega)
  rw [show (((i + 1 : Nat) : Int)) = (i : Int) + 1 by omega]
  go_enter Try.func63, Try.ntmps63
  go_wp2
  go_region
  all_goals go_wp2
  all_goals go_ret
  all_goals exact ⟨rfl, 1, rfl⟩

theorem nearK_in (L : List (Int × ByteArray)) (k : Nat) : 1 ≤ nearK L k ∧ nearK L k ≤ k + 1 := by
  induction k with
  | zero => exact ⟨Nat.le_refl _, Nat.le_refl _⟩
  | succ k ih =>
    unfold nearK
    split <;> omega

/-- What nearest tells. -/
def GotNear (L : List (Int × ByteArray)) (w : World) (e : Ending) (w' : World) : Prop := e = .returned (.int .i64 ((nearK L (L.length - 2) : Nat) : Int)) ∧ Keeps (fun _ => False) w w'

set_option maxRecDepth 100000 in
set_option maxHeartbeats 2000000 in
theorem nearest_any (w : World) (S : Nat → Prop) (kp : Nat) (most : Int) (v : Value) (L : List (Int × ByteArray)) (H : KeepIs w S kp most v L) (hn : L.length ≤ 1000) (h2 : 2 ≤ L.length) :
    Calls Try.prog 51 #[.pointer (some ⟨kp, 0, none⟩)] w (GotNear L w) := by
  obtain ⟨W0, hW0⟩ : ∃ W0, W0 = w.alloc (.cells #[.pointer (some ⟨kp, 0, none⟩)] 62) := ⟨_, rfl⟩
  obtain ⟨P, hP⟩ : ∃ P : Nat, P = w.heap.size := ⟨_, rfl⟩
  have k0 : Keeps (fun _ => False) w W0 := by rw [hW0]; exact (Keeps.refl _ w).alloc _
  have H0 := H.keep k0 (fun _ _ _ h => h)
  have cp : W0.cell? ⟨P, 0, none⟩ = some (.pointer (some ⟨kp, 0, none⟩)) := by rw [hW0, hP]; exact Go.Proofs.cell_new_sl w _ _
  have hPl : P < W0.heap.size := by rw [hW0, hP]; simp
  obtain ⟨g, c, hv⟩ : ∃ g c, v = .slice (some ⟨g, 0, none⟩) L.length c := by
    rcases H0.own.2 with ⟨_, h0⟩ | ⟨g, cap, cur, e1, _⟩
    · omega
    · exact ⟨g, cap, e1⟩
  have c1 := H0.c1
  have hgap : ∀ wr, Keeps (fun _ => False) W0 wr → ∀ i, 1 ≤ i → i < L.length → Calls Try.prog 63 #[.int .i64 (i : Int), .pointer (some ⟨P, 0, none⟩)] wr fun e w' => e = .returned (.int .u64 (gapK L i)) ∧ Keeps (fun _ => False) W0 w' := fun wr hk i h1 hi => by
    obtain ⟨j, rfl⟩ : ∃ j, i = j + 1 := ⟨i - 1, by omega⟩
    have H1 := H0.keep hk (fun _ _ _ h => h)
    have c1' := H1.c1
    have ho := H1.own
    rw [hv] at c1' ho
    have d1 := ho.cellAt ((j + 1) * 2) (by omega)
    have d0 := ho.cellAt (j * 2) (by omega)
    rw [(flatK_at L (j + 1) hi).1] at d1
    rw [(flatK_at L j (by omega)).1] at d0
    have h := gap_asks wr P kp g L.length c j _ _ ((hk.cell hPl (fun h => h)).trans cp) c1' d1 d0 hi hn
    have e : (#[Value.int .i64 ((j + 1 : Nat) : Int)] ++ #[Value.pointer (some ⟨P, 0, none⟩)] : Array Value) = #[.int .i64 ((j + 1 : Nat) : Int), .pointer (some ⟨P, 0, none⟩)] := by simp
    rw [e] at h
    refine h.mono ?_
    rintro e w' ⟨rfl, q, rfl⟩
    refine ⟨by unfold gapK; rw [Nat.add_sub_cancel], hk.trans (T := fun _ => False) ⟨rfl, rfl, rfl, Nat.le_refl _, fun _ _ _ => rfl⟩ (fun _ _ h => h)⟩
  rw [hv] at c1
  obtain ⟨N, hN⟩ : ∃ N : Nat, N = L.length := ⟨_, rfl⟩
  rw [← hN] at c1 hn h2 hgap
  have HGap := Lib.hid hgap
  have K0 := Lib.hid k0
  have C1 := Lib.hid c1
  have CP := Lib.hid cp
  have HN := Lib.hid hN
  have HW := Lib.hid hW0
  have hkl := Lib.hid H0.lt
  clear H H0 hv hgap hN k0 c1 cp
  go_enter Try.func51, Try.ntmps51
  go_upto_block 0 with fail
  rw [← HW.out, ← hP]
  clear hW0
  have hP' := Lib.hid hP
  clear hP
  go_wp2_with fail
  go_loopw [3, 5] (fun s3 s5 wr => ∃ k : Nat, k + 2 ≤ N ∧ s3 = .int .i64 ((nearK L k : Nat) : Int) ∧ s5 = .int .i64 ((k : Int) + 2) ∧ Keeps (fun _ => False) W0 wr) (fun _ s5 _ => N - (intOf s5).toNat)
  case atStart => exact ⟨0, by omega, rfl, rfl, Keeps.refl _ _⟩
  case round =>
    obtain ⟨k, hk, rfl, rfl, hkr⟩ := hrel
    have c1 := (hkr.cell hkl.out (fun h => h)).trans C1.out
    have cp := (hkr.cell hPl (fun h => h)).trans CP.out
    obtain ⟨b, hb⟩ : ∃ b : Nat, b = nearK L k := ⟨_, rfl⟩
    have hbin := nearK_in L k
    rw [← hb] at hbin ⊢
    by_cases hlt : k + 2 < N
    · have hlt' : (k : Int) + 2 < (N : Int) := by omega
      obtain ⟨X, hX⟩ : ∃ X : Int, X = gapK L (k + 2) := ⟨_, rfl⟩
      obtain ⟨Y, hY⟩ : ∃ Y : Int, Y = gapK L b := ⟨_, rfl⟩
      have G1 := HGap.out wr hkr (k + 2) (by omega) hlt
      rw [← hX, show (((k + 2 : Nat)) : Int) = (k : Int) + 2 by omega] at G1
      have G2 : Hid (∀ w', Keeps (fun _ => False) W0 w' → Calls Try.prog 63 #[.int .i64 (b : Int), .pointer (some ⟨P, 0, none⟩)] w' fun e w'' => e = .returned (.int .u64 Y) ∧ Keeps (fun _ => False) W0 w'') := fun w' hk' => by rw [hY]; exact HGap.out w' hk' b hbin.1 (by omega)
      have G1h := Lib.hid G1
      have hnext : nearK L (k + 1) = if X < Y then k + 2 else b := by rw [hX, hY, hb]; rfl
      have HX := Lib.hid hnext
      have HKr := Lib.hid hkr
      clear G1 hnext hX hY hb hkr
      by_cases hxy : X < Y
      · have hd : decide (X < Y) = true := decide_eq_true hxy
        go_wp2_with fail
        refine G1h.out.mono ?_
        rintro e w1 ⟨rfl, hk1⟩
        have HK1 := Lib.hid hk1
        clear hk1
        go_wp2_with fail
        refine (G2.out w1 HK1.out).mono ?_
        rintro e w2 ⟨rfl, hk2⟩
        have HK2 := Lib.hid hk2
        clear hk2
        go_wp2
        go_roundw
        case rel => exact ⟨k + 1, by omega, by rw [HX.out, if_pos hxy]; go_num, by go_num, HK2.out⟩
        case measure => simp [intOf]; omega
      · have hd : decide (X < Y) = false := decide_eq_false hxy
        go_wp2_with fail
        refine G1h.out.mono ?_
        rintro e w1 ⟨rfl, hk1⟩
        have HK1 := Lib.hid hk1
        clear hk1
        go_wp2_with fail
        refine (G2.out w1 HK1.out).mono ?_
        rintro e w2 ⟨rfl, hk2⟩
        have HK2 := Lib.hid hk2
        clear hk2
        go_wp2
        go_roundw
        case rel => exact ⟨k + 1, by omega, by rw [HX.out, if_neg (by omega)], by go_num, HK2.out⟩
        case measure => simp [intOf]; omega
    · have hlt' : ¬ ((k : Int) + 2 < (N : Int)) := by omega
      have hd : decide ((k : Int) + 2 < (N : Int)) = false := decide_eq_false hlt'
      have hkN : L.length - 2 = k := by rw [← HN.out]; omega
      have HB := Lib.hid hb
      have HKr := Lib.hid hkr
      have HKN := Lib.hid hkN
      clear hb hkr hkN
      go_wp2
      go_ret
      exact ⟨by rw [HKN.out, ← HB.out]; rfl, K0.out.trans HKr.out (fun _ _ h => h)⟩

/-- The times rise. -/
def Up (L : List (Int × ByteArray)) : Prop := ∀ i j, i < j → j < L.length → (L.getD i (0, ⟨#[]⟩)).1 < (L.getD j (0, ⟨#[]⟩)).1

theorem up_iff (L : List (Int × ByteArray)) : Up L ↔ L.Pairwise fun a b => a.1 < b.1 := by
  rw [List.pairwise_iff_getElem]
  constructor
  · intro h i j hi hj hij
    have := h i j hij hj
    rw [List.getD_eq_getElem?_getD, List.getD_eq_getElem?_getD, List.getElem?_eq_getElem hi, List.getElem?_eq_getElem hj] at this
    exact this
  · intro h i j hij hj
    have := h i j (by omega) hj hij
    rw [List.getD_eq_getElem?_getD, List.getD_eq_getElem?_getD, List.getElem?_eq_getElem (by omega : i < L.length), List.getElem?_eq_getElem hj]
    exact this

/-- A thing laid in at a place; a thing let go. -/
def insK (L : List (Int × ByteArray)) (r : Nat) (a : Int × ByteArray) : List (Int × ByteArray) := L.take r ++ a :: L.drop r
def delK (L : List (Int × ByteArray)) (i : Nat) : List (Int × ByteArray) := L.take i ++ L.drop (i + 1)

theorem insK_length (L : List (Int × ByteArray)) (r : Nat) (a : Int × ByteArray) : (insK L r a).length = L.length + 1 := by
  unfold insK
  rw [List.length_append, List.length_cons, List.length_take, List.length_drop]
  omega
theorem delK_length (L : List (Int × ByteArray)) (i : Nat) (h : i < L.length) : (delK L i).length = L.length - 1 := by
  unfold delK
  rw [List.length_append, List.length_take, List.length_drop]
  omega

theorem getD_of_mem {L : List (Int × ByteArray)} {a : Int × ByteArray} (h : a ∈ L) : ∃ i, i < L.length ∧ L.getD i (0, ⟨#[]⟩) = a := by
  obtain ⟨i, hi, e⟩ := List.getElem_of_mem h
  exact ⟨i, hi, by rw [List.getD_eq_getElem?_getD, List.getElem?_eq_getElem hi]; exact e⟩

theorem up_ins {L : List (Int × ByteArray)} {r : Nat} {a : Int × ByteArray} (h : Up L) (hr : r ≤ L.length) (h1 : ∀ t, t < r → (L.getD t (0, ⟨#[]⟩)).1 < a.1) (h2 : ∀ t, r ≤ t → t < L.length → a.1 < (L.getD t (0, ⟨#[]⟩)).1) : Up (insK L r a) := by
  rw [up_iff] at h ⊢
  have h0 := h
  rw [← List.take_append_drop r L, List.pairwise_append] at h
  obtain ⟨p1, p2, p3⟩ := h
  have q1 : ∀ b ∈ L.take r, b.1 < a.1 := fun b hb => by
    obtain ⟨i, hi, e⟩ := getD_of_mem hb
    rw [List.length_take] at hi
    have := h1 i (by omega)
    rw [List.getD_eq_getElem?_getD, List.getElem?_take, if_pos (by omega), ← List.getD_eq_getElem?_getD] at e
    rw [e] at this
    exact this
  have q2 : ∀ b ∈ L.drop r, a.1 < b.1 := fun b hb => by
    obtain ⟨i, hi, e⟩ := getD_of_mem hb
    rw [List.length_drop] at hi
    have := h2 (r + i) (by omega) (by omega)
    rw [List.getD_eq_getElem?_getD, List.getElem?_drop, ← List.getD_eq_getElem?_getD] at e
    rw [e] at this
    exact this
  unfold insK
  rw [List.pairwise_append, List.pairwise_cons]
  refine ⟨p1, ⟨q2, p2⟩, fun b hb d hd => ?_⟩
  rcases List.mem_cons.1 hd with rfl | hd
  · exact q1 b hb
  · exact p3 b hb d hd

theorem up_del {L : List (Int × ByteArray)} {i : Nat} (h : Up L) : Up (delK L i) := by
  rw [up_iff] at h ⊢
  exact h.sublist (by
    unfold delK
    have e : L = L.take i ++ L.drop i := (List.take_append_drop i L).symm
    conv => rhs; rw [e]
    exact (List.Sublist.refl _).append (List.drop_sublist_drop_left L (Nat.le_succ i)))

theorem up_set {L : List (Int × ByteArray)} {k : Nat} {a : Int × ByteArray} (h : Up L) (hk : k < L.length) (ha : (L.getD k (0, ⟨#[]⟩)).1 = a.1) : Up (L.set k a) := by
  have e : ∀ i, i < L.length → ((L.set k a).getD i (0, ⟨#[]⟩)).1 = (L.getD i (0, ⟨#[]⟩)).1 := fun i hi => by
    by_cases hik : k = i
    · subst hik
      rw [List.getD_eq_getElem?_getD, List.getElem?_set_self hk, ha]
      rfl
    · rw [List.getD_eq_getElem?_getD, List.getElem?_set_ne hik, ← List.getD_eq_getElem?_getD]
  intro i j hij hj
  rw [List.length_set] at hj
  rw [e i (by omega), e j hj]
  exact h i j hij hj

theorem flatK_ins (L : List (Int × ByteArray)) (r : Nat) (a : Int × ByteArray) (h : r ≤ L.length) : (flatK L).take (r * 2) ++ [.int .i64 a.1, .string a.2] ++ (flatK L).drop (r * 2) = flatK (insK L r a) := by
  unfold insK
  rw [flatK_take L r h, flatK_drop L r h, flatK_append, flatK_cons, List.append_assoc]
  rfl
theorem flatK_del (L : List (Int × ByteArray)) (i : Nat) (h : i < L.length) : (flatK L).take (i * 2) ++ (flatK L).drop ((i + 1) * 2) = flatK (delK L i) := by
  unfold delK
  rw [flatK_take L i (by omega), flatK_drop L (i + 1) (by omega), flatK_append]

/-- What there is behind a Put of a new time. -/
def newK (most : Int) (L : List (Int × ByteArray)) (r : Nat) (a : Int) (x : ByteArray) : List (Int × ByteArray) :=
  if (max most 1) < ((L.length : Int) + 1) then delK (insK L r (a, x)) (nearK (insK L r (a, x)) (L.length - 1)) else insK L r (a, x)

/-- What Put of a new time leaves. -/
def PutNew (S : Nat → Prop) (kp : Nat) (most : Int) (L : List (Int × ByteArray)) (a : Int) (x : ByteArray) (w : World) (e : Ending) (w' : World) : Prop :=
  ∃ (r : Nat) (v' : Value), e = .returned (.tuple #[]) ∧ r ≤ L.length ∧ (∀ t, t < r → (L.getD t (0, ⟨#[]⟩)).1 < a) ∧ (∀ t, r ≤ t → t < L.length → a < (L.getD t (0, ⟨#[]⟩)).1) ∧
    KeepIs w' (fun k => S k ∨ (w.heap.size ≤ k ∧ k < w'.heap.size)) kp most v' (newK most L r a x) ∧ Keeps S w w'

set_option maxRecDepth 100000 in
set_option maxHeartbeats 2000000 in
theorem put_new (w : World) (S : Nat → Prop) (kp : Nat) (most : Int) (v : Value) (L : List (Int × ByteArray)) (H : KeepIs w S kp most v L) (hn : L.length ≤ 900) (a : Int) (x : ByteArray) (hna : ∀ t, t < L.length → (L.getD t (0, ⟨#[]⟩)).1 ≠ a) :
    Calls Try.prog 34 #[.pointer (some ⟨kp, 0, none⟩), .int .i64 a, .string x] w (PutNew S kp most L a x w) := by
  have BC := Lib.hid (behind_any w S kp most v L H (by omega) a)
  have HH := Lib.hid H
  have hv := own_formk H.own
  obtain ⟨A, c, rfl⟩ := hv
  clear H
  go_enter Try.func34, Try.ntmps34
  go_wp2_with fail
  refine BC.out.mono ?_
  rintro e w1 ⟨r, rfl, k1, h1, h2, h3⟩
  have H1 := HH.out.keep k1 (fun _ _ _ h => h)
  have h2' : ∀ t, t < r → (L.getD t (0, ⟨#[]⟩)).1 < a := fun t ht => by
    have e1 := h2 t ht
    have e2 := hna t (by omega)
    omega
  obtain ⟨w2, hw2⟩ : ∃ w2 : World, w2 = w1.alloc (.cells #[.int .i64 a, .string x] 86) := ⟨_, rfl⟩
  have k2 : Keeps (fun _ => False) w1 w2 := by rw [hw2]; exact (Keeps.refl _ _).alloc _
  have H2 := H1.keep k2 (fun _ _ _ h => h)
  have hob : w2.heap[w1.heap.size]? = some (.cells ([.int .i64 a, .string x] : List Value).toArray 86 (0, 0)) := by rw [hw2]; exact heap_alloc_new w1 _
  have hne : (Value.slice A L.length c).ownBlock ≠ some w1.heap.size := fun h => by have := own_ltk H1.own h; omega
  have IC := Lib.hid (ins_any86 w2 (.slice A L.length c) L.length r (flatK L) [.int .i64 a, .string x] H2.own (flatK_one L) (by omega) h1 rfl (by simp [Value.oneCell']) w1.heap.size 86 hne hob)
  have sz := k1.size
  have sz2 := k2.size
  have HI : Hid (∀ w3 v3, w3.ownsRow 0 86 2 v3 (L.length + 1) ((flatK L).take (r * 2) ++ [.int .i64 a, .string x] ++ (flatK L).drop (r * 2)) → w2.grownBy w3 (Value.slice A L.length c).ownBlock → (v3.ownBlock = (Value.slice A L.length c).ownBlock ∨ v3.ownBlock = some w2.heap.size) →
      KeepIs (w3.setCell ⟨kp, 1, none⟩ v3) (fun k => S k ∨ (w.heap.size ≤ k ∧ k < (w3.setCell ⟨kp, 1, none⟩ v3).heap.size)) kp most v3 (insK L r (a, x)) ∧ Keeps S w (w3.setCell ⟨kp, 1, none⟩ v3) ∧ w3.cell? ⟨kp, 1, none⟩ = some (.slice A L.length c) ∧ w3.frozen? ⟨kp, 1, none⟩ = false) := fun w3 v3 ho hg hb => by
    have hsz : (w3.setCell ⟨kp, 1, none⟩ v3).heap.size = w3.heap.size := by simp
    have h := H2.into (T := fun k => S k ∨ (w.heap.size ≤ k ∧ k < (w3.setCell ⟨kp, 1, none⟩ v3).heap.size)) hg (v5 := v3) (M := insK L r (a, x)) (by
      rw [insK_length, ← flatK_ins L r (a, x) h1]
      exact ho) (fun k hk => by
      rcases hb with e | e
      · have h := H2.vb k (e.symm.trans hk)
        exact ⟨.inl h.1, h.2⟩
      · have hlt := own_ltk ho hk
        rw [e] at hk
        have := Option.some.inj hk
        have := H1.lt
        exact ⟨.inr ⟨by omega, by rw [hsz]; omega⟩, by omega⟩) (fun _ h => .inl h) (up_ins H2.up h1 h2' h3)
    have hk : w3.heap[kp]? = w2.heap[kp]? := hg.block kp H2.lt fun e => (H2.vb kp e.symm).2 rfl
    exact ⟨h.1, ((k1.trans k2 (fun _ _ h => h)).mono (T := S) (fun _ _ h => h.elim)).trans h.2 (fun _ _ h => h), (World.cell?_of_block (w := w2) (a := ⟨kp, 1, none⟩) hk).trans H2.c1, (World.frozen?_of_block (w := w2) (a := ⟨kp, 1, none⟩) hk).trans (H2.fz 1)⟩
  have c1 := H1.c1
  have hg : ∀ s, r = s + 1 → ∃ g y, A = some ⟨g, 0, none⟩ ∧ y ≠ a ∧ w1.cell? ⟨g, s * 2, none⟩ = some (.int .i64 y) := fun s hs => by
    rcases H1.own.2 with ⟨_, h0⟩ | ⟨g, cap, cur, e1, _⟩
    · omega
    · simp only [Value.slice.injEq] at e1
      obtain ⟨rfl, _, rfl⟩ := e1
      exact ⟨g, _, rfl, hna s (by omega), (H1.own.cellAt (s * 2) (by omega)).trans (flatK_at L s (by omega)).1⟩
  have HB := Lib.hid (And.intro h1 (And.intro h2' h3))
  have HW2 := Lib.hid hw2
  obtain ⟨N, hN⟩ : ∃ N : Nat, N = L.length := ⟨_, rfl⟩
  rw [← hN] at c1 IC HI hn
  have hrN : r ≤ N := by rw [hN]; exact h1
  have HN := Lib.hid hN
  clear h1 h2 h2' h3 k1 k2 H1 H2 hob hne hna hN sz sz2
  by_cases hr : r = 0
  · subst hr
    clear hg
    go_wp2_with fail
    rw [← HW2.out]
    refine IC.out.mono ?_
    rintro e w3 ⟨v3, rfl, ho, hg3, hb3⟩
    obtain ⟨A3, c3, rfl⟩ := own_formk ho
    obtain ⟨hK4, hk4, q1, qf⟩ := HI.out w3 _ ho hg3 hb3
    obtain ⟨w4, hw4⟩ : ∃ w4 : World, w4 = w3.setCell ⟨kp, 1, none⟩ (.slice A3 (N + 1) c3) := ⟨_, rfl⟩
    rw [← hw4] at hK4 hk4
    have e0 := hK4.c0
    have e1 := hK4.c1
    have HK4 := Lib.hid hK4
    have Hk4 := Lib.hid hk4
    have HW4 := Lib.hid hw4
    have hwn : IntKind.i64.wrap ((N : Int) + 1) = (N : Int) + 1 := IntWalk.i64_in _ (by omega)
    clear ho hg3 hb3 hK4 hk4 hw4
    go_wp2_with fail
    try rw [← HW4.out]
    go_region
    all_goals
      by_cases hm : max most 1 < (N : Int) + 1
      · have hd : decide (max most 1 < (N : Int) + 1) = true := decide_eq_true hm
        have hml : (insK L 0 (a, x)).length = N + 1 := by rw [insK_length, ← HN.out]
        have hN1 : 1 ≤ N := by omega
        have hKd := HK4.out.keep (T := fun _ => False) (Keeps.refl _ _).drew (fun _ _ _ h => h)
        have NC := Lib.hid (nearest_any w4.drew _ kp most _ _ hKd (by rw [hml]; omega) (by rw [hml]; omega))
        obtain ⟨b, hb⟩ : ∃ b : Nat, b = nearK (insK L 0 (a, x)) ((insK L 0 (a, x)).length - 2) := ⟨_, rfl⟩
        have hbin := nearK_in (insK L 0 (a, x)) ((insK L 0 (a, x)).length - 2)
        rw [← hb] at hbin
        rw [hml] at hbin
        have hbN : b < N + 1 := by omega
        have HBn := Lib.hid hb
        have HML := Lib.hid hml
        clear hKd hbin hb hml
        go_wp2_with fail
        refine NC.out.mono ?_
        rintro e w5 ⟨rfl, k5⟩
        rw [← HBn.out]
        have K5 : Keeps (fun _ => False) w4 w5 := (Keeps.refl _ _).drew.trans k5 (fun _ _ h => h)
        have H5 := HK4.out.keep K5 (fun _ _ _ h => h)
        have f1 := H5.c1
        have ff := H5.fz 1
        have DC := Lib.hid (del_any86 w5 (.slice A3 (N + 1) c3) (N + 1) b (b + 1) (flatK (insK L 0 (a, x))) (by have h := H5.own; rw [HML.out] at h; exact h) (flatK_one _) (by omega) (by omega) (by omega))
        have HD : Hid (∀ w6 v6, w6.ownsRow 0 86 2 v6 (N + 1 - (b + 1 - b)) ((flatK (insK L 0 (a, x))).take (b * 2) ++ (flatK (insK L 0 (a, x))).drop ((b + 1) * 2)) → w5.grownBy w6 (Value.slice A3 (N + 1) c3).ownBlock → v6.ownBlock = (Value.slice A3 (N + 1) c3).ownBlock →
            PutNew S kp most L a x w (.returned (.tuple #[])) (w6.setCell ⟨kp, 1, none⟩ v6) ∧ w6.cell? ⟨kp, 1, none⟩ = some (.slice A3 (N + 1) c3) ∧ w6.frozen? ⟨kp, 1, none⟩ = false) := fun w6 v6 ho hg hb6 => by
          have hsz : (w6.setCell ⟨kp, 1, none⟩ v6).heap.size = w6.heap.size := by simp
          have s45 := K5.size
          have s56 := hg.size
          have h := H5.into (T := fun k => S k ∨ (w.heap.size ≤ k ∧ k < (w6.setCell ⟨kp, 1, none⟩ v6).heap.size)) hg (v5 := v6) (M := delK (insK L 0 (a, x)) b) (by
            rw [delK_length _ _ (by rw [HML.out]; exact hbN), HML.out, ← flatK_del _ b (by rw [HML.out]; exact hbN)]
            rw [show N + 1 - (b + 1 - b) = N + 1 - 1 by omega] at ho
            exact ho) (fun k hk => by
            obtain ⟨q1, q2⟩ := H5.vb k (by rw [← hb6]; exact hk)
            refine ⟨?_, q2⟩
            rcases q1 with q1 | q1
            · exact .inl q1
            · exact .inr ⟨q1.1, by rw [hsz]; omega⟩) (fun k hk => by
            rcases hk with q1 | q1
            · exact .inl q1
            · exact .inr ⟨q1.1, by rw [hsz]; omega⟩) (up_del H5.up)
          have hk : w6.heap[kp]? = w5.heap[kp]? := hg.block kp H5.lt fun e => (H5.vb kp e.symm).2 rfl
          refine ⟨⟨0, v6, rfl, HB.out.1, HB.out.2.1, HB.out.2.2, ?_, ?_⟩, (World.cell?_of_block (w := w5) (a := ⟨kp, 1, none⟩) hk).trans f1, (World.frozen?_of_block (w := w5) (a := ⟨kp, 1, none⟩) hk).trans ff⟩
          · unfold newK
            rw [if_pos (by rw [← HN.out]; exact hm), show L.length - 1 = (insK L 0 (a, x)).length - 2 by rw [insK_length]; omega, ← HBn.out]
            exact h.1
          · exact (Hk4.out.trans K5 (fun _ _ h => h.elim)).trans h.2 (fun k hk q => by rcases q with q | q; exact q; omega)
        clear k5 K5 H5
        go_wp2_with fail
        refine DC.out.mono ?_
        rintro e w6 ⟨v6, rfl, ho, hg, hb6⟩
        obtain ⟨A6, c6, rfl⟩ := own_formk ho
        obtain ⟨hf, p1, p2⟩ := HD.out w6 _ ho hg hb6
        rw [show N + 1 - (b + 1 - b) = N by omega] at hf
        have HF := Lib.hid hf
        clear hf ho hg hb6
        go_wp2
        exact bodyPost_ret (v := .tuple #[]) (by simp [results, Try.results34, go_sem]) rfl HF.out
      · have hd : decide (max most 1 < (N : Int) + 1) = false := decide_eq_false hm
        have hfin : PutNew S kp most L a x w (.returned (.tuple #[])) w4.drew := ⟨0, _, rfl, HB.out.1, HB.out.2.1, HB.out.2.2, by
          unfold newK
          rw [if_neg (by rw [← HN.out]; exact hm)]
          exact HK4.out.keep (T := fun _ => False) (Keeps.refl _ _).drew (fun _ _ _ h => h), Hk4.out.drew⟩
        have HF := Lib.hid hfin
        clear hfin
        go_wp2
        exact bodyPost_ret (v := .tuple #[]) (by simp [results, Try.results34, go_sem]) rfl HF.out
  · obtain ⟨s, rfl⟩ : ∃ s, r = s + 1 := ⟨r - 1, by omega⟩
    obtain ⟨g, y, rfl, hya, d0⟩ := hg s rfl
    have IC2 := IC.out
    rw [show (((s + 1 : Nat)) : Int) = (s : Int) + 1 by omega] at IC2
    have IC3 := Lib.hid IC2
    have sN : (s : Int) < (N : Int) := by omega
    have s0 : (0 : Int) ≤ (s : Int) := by omega
    have s1 : IntKind.i64.wrap (s : Int) = (s : Int) := IntWalk.i64_in _ (by omega)
    have s2 : (0 : Int) < (s : Int) + 1 := by omega
    have hyd : decide (y = a) = false := decide_eq_false hya
    clear hg IC2
    go_wp2_with fail
    rw [← HW2.out]
    refine IC3.out.mono ?_
    rintro e w3 ⟨v3, rfl, ho, hg3, hb3⟩
    obtain ⟨A3, c3, rfl⟩ := own_formk ho
    obtain ⟨hK4, hk4, q1, qf⟩ := HI.out w3 _ ho hg3 hb3
    obtain ⟨w4, hw4⟩ : ∃ w4 : World, w4 = w3.setCell ⟨kp, 1, none⟩ (.slice A3 (N + 1) c3) := ⟨_, rfl⟩
    rw [← hw4] at hK4 hk4
    have e0 := hK4.c0
    have e1 := hK4.c1
    have HK4 := Lib.hid hK4
    have Hk4 := Lib.hid hk4
    have HW4 := Lib.hid hw4
    have hwn : IntKind.i64.wrap ((N : Int) + 1) = (N : Int) + 1 := IntWalk.i64_in _ (by omega)
    clear ho hg3 hb3 hK4 hk4 hw4
    go_wp2_with fail
    try rw [← HW4.out]
    go_region
    all_goals
      by_cases hm : max most 1 < (N : Int) + 1
      · have hd : decide (max most 1 < (N : Int) + 1) = true := decide_eq_true hm
        have hml : (insK L (s + 1) (a, x)).length = N + 1 := by rw [insK_length, ← HN.out]
        have hN1 : 1 ≤ N := by omega
        have hKd := HK4.out.keep (T := fun _ => False) (Keeps.refl _ _).drew (fun _ _ _ h => h)
        have NC := Lib.hid (nearest_any w4.drew _ kp most _ _ hKd (by rw [hml]; omega) (by rw [hml]; omega))
        obtain ⟨b, hb⟩ : ∃ b : Nat, b = nearK (insK L (s + 1) (a, x)) ((insK L (s + 1) (a, x)).length - 2) := ⟨_, rfl⟩
        have hbin := nearK_in (insK L (s + 1) (a, x)) ((insK L (s + 1) (a, x)).length - 2)
        rw [← hb] at hbin
        rw [hml] at hbin
        have hbN : b < N + 1 := by omega
        have HBn := Lib.hid hb
        have HML := Lib.hid hml
        clear hKd hbin hb hml
        go_wp2_with fail
        refine NC.out.mono ?_
        rintro e w5 ⟨rfl, k5⟩
        rw [← HBn.out]
        have K5 : Keeps (fun _ => False) w4 w5 := (Keeps.refl _ _).drew.trans k5 (fun _ _ h => h)
        have H5 := HK4.out.keep K5 (fun _ _ _ h => h)
        have f1 := H5.c1
        have ff := H5.fz 1
        have DC := Lib.hid (del_any86 w5 (.slice A3 (N + 1) c3) (N + 1) b (b + 1) (flatK (insK L (s + 1) (a, x))) (by have h := H5.own; rw [HML.out] at h; exact h) (flatK_one _) (by omega) (by omega) (by omega))
        have HD : Hid (∀ w6 v6, w6.ownsRow 0 86 2 v6 (N + 1 - (b + 1 - b)) ((flatK (insK L (s + 1) (a, x))).take (b * 2) ++ (flatK (insK L (s + 1) (a, x))).drop ((b + 1) * 2)) → w5.grownBy w6 (Value.slice A3 (N + 1) c3).ownBlock → v6.ownBlock = (Value.slice A3 (N + 1) c3).ownBlock →
            PutNew S kp most L a x w (.returned (.tuple #[])) (w6.setCell ⟨kp, 1, none⟩ v6) ∧ w6.cell? ⟨kp, 1, none⟩ = some (.slice A3 (N + 1) c3) ∧ w6.frozen? ⟨kp, 1, none⟩ = false) := fun w6 v6 ho hg hb6 => by
          have hsz : (w6.setCell ⟨kp, 1, none⟩ v6).heap.size = w6.heap.size := by simp
          have s45 := K5.size
          have s56 := hg.size
          have h := H5.into (T := fun k => S k ∨ (w.heap.size ≤ k ∧ k < (w6.setCell ⟨kp, 1, none⟩ v6).heap.size)) hg (v5 := v6) (M := delK (insK L (s + 1) (a, x)) b) (by
            rw [delK_length _ _ (by rw [HML.out]; exact hbN), HML.out, ← flatK_del _ b (by rw [HML.out]; exact hbN)]
            rw [show N + 1 - (b + 1 - b) = N + 1 - 1 by omega] at ho
            exact ho) (fun k hk => by
            obtain ⟨q1, q2⟩ := H5.vb k (by rw [← hb6]; exact hk)
            refine ⟨?_, q2⟩
            rcases q1 with q1 | q1
            · exact .inl q1
            · exact .inr ⟨q1.1, by rw [hsz]; omega⟩) (fun k hk => by
            rcases hk with q1 | q1
            · exact .inl q1
            · exact .inr ⟨q1.1, by rw [hsz]; omega⟩) (up_del H5.up)
          have hk : w6.heap[kp]? = w5.heap[kp]? := hg.block kp H5.lt fun e => (H5.vb kp e.symm).2 rfl
          refine ⟨⟨s + 1, v6, rfl, HB.out.1, HB.out.2.1, HB.out.2.2, ?_, ?_⟩, (World.cell?_of_block (w := w5) (a := ⟨kp, 1, none⟩) hk).trans f1, (World.frozen?_of_block (w := w5) (a := ⟨kp, 1, none⟩) hk).trans ff⟩
          · unfold newK
            rw [if_pos (by rw [← HN.out]; exact hm), show L.length - 1 = (insK L (s + 1) (a, x)).length - 2 by rw [insK_length]; omega, ← HBn.out]
            exact h.1
          · exact (Hk4.out.trans K5 (fun _ _ h => h.elim)).trans h.2 (fun k hk q => by rcases q with q | q; exact q; omega)
        clear k5 K5 H5
        go_wp2_with fail
        refine DC.out.mono ?_
        rintro e w6 ⟨v6, rfl, ho, hg, hb6⟩
        obtain ⟨A6, c6, rfl⟩ := own_formk ho
        obtain ⟨hf, p1, p2⟩ := HD.out w6 _ ho hg hb6
        rw [show N + 1 - (b + 1 - b) = N by omega] at hf
        have HF := Lib.hid hf
        clear hf ho hg hb6
        go_wp2
        exact bodyPost_ret (v := .tuple #[]) (by simp [results, Try.results34, go_sem]) rfl HF.out
      · have hd : decide (max most 1 < (N : Int) + 1) = false := decide_eq_false hm
        have hfin : PutNew S kp most L a x w (.returned (.tuple #[])) w4.drew := ⟨s + 1, _, rfl, HB.out.1, HB.out.2.1, HB.out.2.2, by
          unfold newK
          rw [if_neg (by rw [← HN.out]; exact hm)]
          exact HK4.out.keep (T := fun _ => False) (Keeps.refl _ _).drew (fun _ _ _ h => h), Hk4.out.drew⟩
        have HF := Lib.hid hfin
        clear hfin
        go_wp2
        exact bodyPost_ret (v := .tuple #[]) (by simp [results, Try.results34, go_sem]) rfl HF.out

end Go.Proofs.Ytpighdioomjnmab.Str
