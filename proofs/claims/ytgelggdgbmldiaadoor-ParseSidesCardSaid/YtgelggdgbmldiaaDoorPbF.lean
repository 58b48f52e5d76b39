/-
  Layer 2: the walk of ParseSides. Written by an AI agent.
-/
import Derived.Test.YtgelggdgbmldiaaDoorPbE
import Derived.Deep.RegionHeld
import Derived.Deep.CutRange
namespace Go.Proofs.YtgelggdgbmldiaaDoor
open Go Go.RowKit Go.Shelf
set_option linter.unusedVariables false
set_option linter.unusedSimpArgs false

theorem sg_len (j : Nat) (hj : j < 11) : (sg j).length ≤ 2 := by
  have key : ∀ j, j < 11 → (sg j).length ≤ 2 := by decide
  exact key j hj
theorem side_set {i k : Nat} {w : World} {A : Option Addr} {m X : Nat} {er : Int} {u v : Value} (h : SideI i k w A m er) (hx : Loc w (fun _ => False) X [.slice none 0 0, .slice none 0 0]) : SideI i k ((w.setCell ⟨X, 0, none⟩ u).setCell ⟨X, 1, none⟩ v) A m er := by
  have c0 := hx.cells 0 _ rfl
  have c1 := hx.cells 1 _ rfl
  have far : ∀ {b o : Nat} {x : Value}, 2 ≤ o → w.cell? ⟨b, o, none⟩ = some x → ((w.setCell ⟨X, 0, none⟩ u).setCell ⟨X, 1, none⟩ v).cell? ⟨b, o, none⟩ = some x := fun ho hc => (cell_other _ _ _ _ (.inl (by omega))).trans ((cell_other _ _ _ _ (.inl (by omega))).trans hc)
  have num : ∀ {b o : Nat} {z : Int}, w.cell? ⟨b, o, none⟩ = some (.int .i64 z) → ((w.setCell ⟨X, 0, none⟩ u).setCell ⟨X, 1, none⟩ v).cell? ⟨b, o, none⟩ = some (.int .i64 z) := fun {b o z} hc => by
    by_cases hb : X = b
    · subst hb
      by_cases h2 : 2 ≤ o
      · exact far h2 hc
      · exfalso
        match o, h2, hc with
        | 0, _, hc => rw [c0] at hc; cases hc
        | 1, _, hc => rw [c1] at hc; cases hc
        | o + 2, h2, _ => omega
    · exact (cell_other _ _ _ _ (.inr hb)).trans ((cell_other _ _ _ _ (.inr hb)).trans hc)
  have top : ∀ {s p q : List UInt8}, TopR w A s p q → TopR ((w.setCell ⟨X, 0, none⟩ u).setCell ⟨X, 1, none⟩ v) A s p q := fun h => by
    obtain ⟨b, off, a2, c2, x, y, b2, off2, h1, h2, h3, ⟨k1, k2, k3, h4, h5, h6⟩, h7, h8, h9, h10, h11, h12, h13⟩ := h
    exact ⟨b, off, a2, c2, x, y, b2, off2, h1, h2, h3, ⟨k1, k2, k3, num h4, num h5, num h6⟩, far (by omega) h7, far (by omega) h8, h9, num h10, num h11, far (by omega) h12, far (by omega) h13⟩
  rcases h with h | ⟨h1, h2, h3, h4⟩
  · exact .inl h
  · exact .inr ⟨h1, h2, h3, h4.imp (fun h => ⟨h.1, top h.2⟩) (fun h => ⟨h.1, top h.2⟩)⟩

set_option maxRecDepth 100000 in
set_option maxHeartbeats 16000000 in
theorem sides_walk (a b : Int) (ha : 0 ≤ a ∧ a ≤ 255) (hb : 0 ≤ b ∧ b ≤ 255) (w : World) (he : ErrW w) : Calls Tryd.prog 6 #[.int .u8 a, .int .u8 b] w fun e w' => e = .returned (.bool true) ∧ Keeps (fun _ => False) w w' := by
  have SC := Lib.hid (shown_any w he)
  have HE := Lib.hid he
  obtain ⟨i, hai, hi⟩ : ∃ i : Nat, a % 11 = (i : Int) ∧ i < 11 := ⟨(a % 11).toNat, by omega, by omega⟩
  obtain ⟨k, hbk, hk⟩ : ∃ k : Nat, b % 11 = (k : Int) ∧ k < 11 := ⟨(b % 11).toNat, by omega, by omega⟩
  have hiI : (i : Int) < 11 := by omega
  have hkI : (k : Int) < 11 := by omega
  have hi0 : (0 : Int) ≤ (i : Int) := by omega
  have hk0 : (0 : Int) ≤ (k : Int) := by omega
  have HI := Lib.hid hi
  have HK := Lib.hid hk
  clear he
  go_enter Tryd.func6, Tryd.ntmps6
  go_wp2_with fail
  refine SC.out.mono ?_
  rintro e w1 ⟨rfl, k1⟩
  have K1 := Lib.hid k1
  clear SC k1
  go_upto_region 3 with fail
  have zs := Loc.new (w := w1) (R := fun _ => False) (fun h => h) [.string { data := #[124, 124] }, .string { data := #[38, 38] }, .string { data := #[60] }, .string { data := #[60, 61] }, .string { data := #[61, 61] }, .string { data := #[33, 61] }, .string { data := #[43] }, .string { data := #[45] }, .string { data := #[42] }, .string { data := #[47] }, .string { data := #[37] }] 9
  have ks := Keeps.one w1 (.cells #[.string { data := #[124, 124] }, .string { data := #[38, 38] }, .string { data := #[60] }, .string { data := #[60, 61] }, .string { data := #[61, 61] }, .string { data := #[33, 61] }, .string { data := #[43] }, .string { data := #[45] }, .string { data := #[42] }, .string { data := #[47] }, .string { data := #[37] }] 9)
  obtain ⟨S, hS⟩ : ∃ S, S = w1.heap.size := ⟨_, rfl⟩
  obtain ⟨w2, hw⟩ : ∃ w2, w2 = w1.alloc (.cells #[.string { data := #[124, 124] }, .string { data := #[38, 38] }, .string { data := #[60] }, .string { data := #[60, 61] }, .string { data := #[61, 61] }, .string { data := #[33, 61] }, .string { data := #[43] }, .string { data := #[45] }, .string { data := #[42] }, .string { data := #[47] }, .string { data := #[37] }] 9) := ⟨_, rfl⟩
  have zs : Loc w2 (fun _ => False) S [.string { data := #[124, 124] }, .string { data := #[38, 38] }, .string { data := #[60] }, .string { data := #[60, 61] }, .string { data := #[61, 61] }, .string { data := #[33, 61] }, .string { data := #[43] }, .string { data := #[45] }, .string { data := #[42] }, .string { data := #[47] }, .string { data := #[37] }] := by rw [hw, hS]; exact zs
  rw [← hS]
  rw [← hw] at ks ⊢
  have K2 := Lib.hid (K1.out.trans ks (fun _ _ h => h))
  have ZS := Lib.hid zs
  clear hw hS ks K1 zs
  go_upto_region 6 with fail
  rw [hai, hbk]
  have zv := Loc.new (w := w2) (R := fun _ => False) (fun h => h) [.int .i64 0, .int .i64 1, .int .i64 2, .int .i64 2, .int .i64 2, .int .i64 2, .int .i64 3, .int .i64 3, .int .i64 4, .int .i64 4, .int .i64 4] 3
  have kv := Keeps.one w2 (.cells #[.int .i64 0, .int .i64 1, .int .i64 2, .int .i64 2, .int .i64 2, .int .i64 2, .int .i64 3, .int .i64 3, .int .i64 4, .int .i64 4, .int .i64 4] 3)
  obtain ⟨V, hV⟩ : ∃ V, V = w2.heap.size := ⟨_, rfl⟩
  obtain ⟨w3, hw⟩ : ∃ w3, w3 = w2.alloc (.cells #[.int .i64 0, .int .i64 1, .int .i64 2, .int .i64 2, .int .i64 2, .int .i64 2, .int .i64 3, .int .i64 3, .int .i64 4, .int .i64 4, .int .i64 4] 3) := ⟨_, rfl⟩
  have zv : Loc w3 (fun _ => False) V [.int .i64 0, .int .i64 1, .int .i64 2, .int .i64 2, .int .i64 2, .int .i64 2, .int .i64 3, .int .i64 3, .int .i64 4, .int .i64 4, .int .i64 4] := by rw [hw, hV]; exact zv
  rw [← hV]
  rw [← hw] at kv ⊢
  have K3 := Lib.hid (K2.out.trans kv (fun _ _ h => h))
  have ZS3 := Lib.hid (ZS.out.keeps kv)
  have ZV := Lib.hid zv
  clear hw hV kv K2 zv ZS
  obtain ⟨Si, hSi⟩ : ∃ Si, Si = ofL (sg i) := ⟨_, rfl⟩
  obtain ⟨Sk, hSk⟩ : ∃ Sk, Sk = ofL (sg k) := ⟨_, rfl⟩
  obtain ⟨Li, hLi⟩ : ∃ Li, Li = lvl i := ⟨_, rfl⟩
  obtain ⟨Lk, hLk⟩ : ∃ Lk, Lk = lvl k := ⟨_, rfl⟩
  have textAt : ∀ j, j < 11 → ([.string { data := #[124, 124] }, .string { data := #[38, 38] }, .string { data := #[60] }, .string { data := #[60, 61] }, .string { data := #[61, 61] }, .string { data := #[33, 61] }, .string { data := #[43] }, .string { data := #[45] }, .string { data := #[42] }, .string { data := #[47] }, .string { data := #[37] }] : List Value)[j]? = some (.string (ofL (sg j))) := fun j hj => by
    match j, hj with
    | 0, _ => rfl
    | 1, _ => rfl
    | 2, _ => rfl
    | 3, _ => rfl
    | 4, _ => rfl
    | 5, _ => rfl
    | 6, _ => rfl
    | 7, _ => rfl
    | 8, _ => rfl
    | 9, _ => rfl
    | 10, _ => rfl
  have lvAt : ∀ j, j < 11 → ([.int .i64 0, .int .i64 1, .int .i64 2, .int .i64 2, .int .i64 2, .int .i64 2, .int .i64 3, .int .i64 3, .int .i64 4, .int .i64 4, .int .i64 4] : List Value)[j]? = some (.int .i64 (lvl j)) := fun j hj => by
    match j, hj with
    | 0, _ => rfl
    | 1, _ => rfl
    | 2, _ => rfl
    | 3, _ => rfl
    | 4, _ => rfl
    | 5, _ => rfl
    | 6, _ => rfl
    | 7, _ => rfl
    | 8, _ => rfl
    | 9, _ => rfl
    | 10, _ => rfl
  have READ : Hid (∀ wq, Keeps (fun _ => False) w3 wq → wq.cell? ⟨S, i, none⟩ = some (.string Si) ∧ wq.cell? ⟨S, k, none⟩ = some (.string Sk) ∧ wq.cell? ⟨V, i, none⟩ = some (.int .i64 Li) ∧ wq.cell? ⟨V, k, none⟩ = some (.int .i64 Lk)) := Lib.hid fun wq kq => by
    have h1 := ZS3.out.keeps kq
    have h2 := ZV.out.keeps kq
    rw [hSi, hSk, hLi, hLk]
    exact ⟨h1.cells i _ (textAt i HI.out), h1.cells k _ (textAt k HK.out), h2.cells i _ (lvAt i HI.out), h2.cells k _ (lvAt k HK.out)⟩
  have AC : Hid (∀ wq, Keeps (fun _ => False) w3 wq → Calls Tryd.prog 13 #[.string (((({ data := #[102, 110, 32, 109, 97, 105, 110, 40, 41, 123, 112, 114, 105, 110, 116, 32, 97] } ++ Si) ++ { data := #[98] }) ++ Sk) ++ { data := #[99, 59, 125] })] wq fun e w' => ∃ A1 m1 c1 A2 m2 c2 at' er, e = .returned (.tuple #[.agg #[.slice A1 m1 c1, .slice A2 m2 c2], .int .i64 at', .int .i64 er]) ∧ SideI i k w' A1 m1 er ∧ Keeps (fun _ => False) wq w') := Lib.hid fun wq kq =>
    side_any i k HI.out HK.out _ (by rw [hSi, hSk]; unfold sideSrc; simp [ofL]) wq (HE.out.keep (K3.out.trans kq (fun _ _ h => h)))
  have hzi : Si.size ≤ 2 := by rw [hSi, ofL_size]; exact sg_len i HI.out
  have hzk : Sk.size ≤ 2 := by rw [hSk, ofL_size]; exact sg_len k HK.out
  have q1 : ¬ 9223372036854775807 < 17 + Si.size := by omega
  have q2 : ¬ 9223372036854775807 < 17 + Si.size + 1 := by omega
  have q3 : ¬ 9223372036854775807 < 17 + Si.size + 1 + Sk.size := by omega
  have q4 : ¬ 9223372036854775807 < 17 + Si.size + 1 + Sk.size + 3 := by omega
  have HSI := Lib.hid hSi
  have HSK := Lib.hid hSk
  have HLI := Lib.hid hLi
  have HLK := Lib.hid hLk
  clear textAt lvAt hSi hSk hLi hLk ZS3 ZV HE
  go_cut [10, 11, 12] from 28 to 44 (fun s10 s11 s12 wx => ∃ (X : Nat) (A1 : Option Addr) (m1 c1 : Nat) (A2 : Option Addr) (m2 c2 : Nat) (p er : Int), s10 = .pointer (some ⟨X, 0, none⟩) ∧ s11 = .int .i64 p ∧ s12 = .int .i64 er ∧ SideI i k wx A1 m1 er ∧ Loc wx (fun _ => False) X [.slice A1 m1 c1, .slice A2 m2 c2] ∧ Keeps (fun _ => False) w3 wx)
  case first =>
    have rd := READ.out _ ((Keeps.refl (fun _ => False) w3).drew)
    have r0 := rd.1
    have r1 := rd.2.1
    refine wp_region_held_drew (S := fun w' => w'.cell? ⟨S, i, none⟩ = some (.string Si) ∧ w'.cell? ⟨S, k, none⟩ = some (.string Sk)) (by kernel_rfl) (⟨r0, r1⟩) (fun hHeld => ?_)
    clear r0 r1 rd
    have kd : Keeps (fun _ => False) w3 w3.drew := (Keeps.refl (fun _ => False) w3).drew
    generalize w3.drew = w4 at kd hHeld ⊢
    have KD := Lib.hid kd
    clear kd
    refine wpAnyH_take (i := 0) (v := ?_) rfl (by kernel_rfl) (by kernel_rfl) (by kernel_rfl) (fun _ _ _ h => h) (Or.inl ⟨by rfl, ?_⟩) (by assumption) ?_
    rotate_left
    · (intro w' hSw; (try dsimp only at hSw); obtain ⟨y0, y1⟩ := hSw; go_simp; (try (with_reducible rfl)))
    simp only [Act.put, List.getElem_toArray, List.getElem_cons_succ, List.getElem_cons_zero, List.setIfInBounds_toArray, List.set_cons_succ, List.set_cons_zero]
    refine wpAnyH_take (i := 1) (v := ?_) rfl (by kernel_rfl) (by kernel_rfl) (by kernel_rfl) (fun _ _ _ h => h) (Or.inl ⟨by rfl, ?_⟩) (by assumption) ?_
    rotate_left
    · (intro w' hSw; (try dsimp only at hSw); obtain ⟨y0, y1⟩ := hSw; go_simp; (try (with_reducible rfl)))
    simp only [Act.put, List.getElem_toArray, List.getElem_cons_succ, List.getElem_cons_zero, List.setIfInBounds_toArray, List.set_cons_succ, List.set_cons_zero]
    refine wpAnyH_take (i := 2) (v := ?_) rfl (by kernel_rfl) (by kernel_rfl) (by kernel_rfl) (fun _ _ _ h => h) (Or.inl ⟨by rfl, ?_⟩) (by assumption) ?_
    rotate_left
    · (intro w' hSw; (try dsimp only at hSw); obtain ⟨y0, y1⟩ := hSw; go_simp; (try (with_reducible rfl)))
    simp only [Act.put, List.getElem_toArray, List.getElem_cons_succ, List.getElem_cons_zero, List.setIfInBounds_toArray, List.set_cons_succ, List.set_cons_zero]
    refine wpAnyH_take (i := 3) (v := ?_) rfl (by kernel_rfl) (by kernel_rfl) (by kernel_rfl) (fun _ _ _ h => h) (Or.inl ⟨by rfl, ?_⟩) (by assumption) ?_
    rotate_left
    · (intro w' hSw; (try dsimp only at hSw); obtain ⟨y0, y1⟩ := hSw; go_simp; (try (with_reducible rfl)))
    simp only [Act.put, List.getElem_toArray, List.getElem_cons_succ, List.getElem_cons_zero, List.setIfInBounds_toArray, List.set_cons_succ, List.set_cons_zero]
    refine wpAnyH_take (i := 4) (v := ?_) rfl (by kernel_rfl) (by kernel_rfl) (by kernel_rfl) (fun _ _ _ h => h) (Or.inl ⟨by rfl, ?_⟩) (by assumption) ?_
    rotate_left
    · (intro w' hSw; (try dsimp only at hSw); obtain ⟨y0, y1⟩ := hSw; go_simp; (try (with_reducible rfl)))
    simp only [Act.put, List.getElem_toArray, List.getElem_cons_succ, List.getElem_cons_zero, List.setIfInBounds_toArray, List.set_cons_succ, List.set_cons_zero]
    refine wpAnyH_take (i := 5) (v := ?_) rfl (by kernel_rfl) (by kernel_rfl) (by kernel_rfl) (fun _ _ _ h => h) (Or.inl ⟨by rfl, ?_⟩) (by assumption) ?_
    rotate_left
    · (intro w' hSw; (try dsimp only at hSw); obtain ⟨y0, y1⟩ := hSw; go_simp; (try (with_reducible rfl)))
    simp only [Act.put, List.getElem_toArray, List.getElem_cons_succ, List.getElem_cons_zero, List.setIfInBounds_toArray, List.set_cons_succ, List.set_cons_zero]
    refine wpAnyH_take (i := 6) (v := ?_) rfl (by kernel_rfl) (by kernel_rfl) (by kernel_rfl) (fun _ _ _ h => h) (Or.inl ⟨by rfl, ?_⟩) (by assumption) ?_
    rotate_left
    · (intro w' hSw; (try dsimp only at hSw); obtain ⟨y0, y1⟩ := hSw; go_simp; (try (with_reducible rfl)))
    simp only [Act.put, List.getElem_toArray, List.getElem_cons_succ, List.getElem_cons_zero, List.setIfInBounds_toArray, List.set_cons_succ, List.set_cons_zero]
    refine wpAnyH_take (i := 7) (v := ?_) rfl (by kernel_rfl) (by kernel_rfl) (by kernel_rfl) (fun _ _ _ h => h) (Or.inl ⟨by rfl, ?_⟩) (by assumption) ?_
    rotate_left
    · (intro w' hSw; (try dsimp only at hSw); obtain ⟨y0, y1⟩ := hSw; go_simp; (try (with_reducible rfl)))
    simp only [Act.put, List.getElem_toArray, List.getElem_cons_succ, List.getElem_cons_zero, List.setIfInBounds_toArray, List.set_cons_succ, List.set_cons_zero]
    refine wpAnyH_take (i := 8) (v := ?_) rfl (by kernel_rfl) (by kernel_rfl) (by kernel_rfl) (fun _ _ _ h => h) (Or.inl ⟨by rfl, ?_⟩) (by assumption) ?_
    rotate_left
    · (intro w' hSw; (try dsimp only at hSw); obtain ⟨y0, y1⟩ := hSw; go_simp; (try (with_reducible rfl)))
    simp only [Act.put, List.getElem_toArray, List.getElem_cons_succ, List.getElem_cons_zero, List.setIfInBounds_toArray, List.set_cons_succ, List.set_cons_zero]
    refine wpAnyH_take (i := 9) (v := ?_) rfl (by kernel_rfl) (by kernel_rfl) (by kernel_rfl) (fun _ _ _ h => h) (Or.inl ⟨by rfl, ?_⟩) (by assumption) ?_
    rotate_left
    · (intro w' hSw; (try dsimp only at hSw); obtain ⟨y0, y1⟩ := hSw; go_simp; (try (with_reducible rfl)))
    simp only [Act.put, List.getElem_toArray, List.getElem_cons_succ, List.getElem_cons_zero, List.setIfInBounds_toArray, List.set_cons_succ, List.set_cons_zero]
    refine wpAnyH_take (i := 10) (v := ?_) rfl (by kernel_rfl) (by kernel_rfl) (by kernel_rfl) (fun _ _ _ h => h) (Or.inl ⟨by rfl, ?_⟩) (by assumption) ?_
    rotate_left
    · (intro w' hSw; (try dsimp only at hSw); obtain ⟨y0, y1⟩ := hSw; go_simp; (try (with_reducible rfl)))
    simp only [Act.put, List.getElem_toArray, List.getElem_cons_succ, List.getElem_cons_zero, List.setIfInBounds_toArray, List.set_cons_succ, List.set_cons_zero]
    refine wpAnyH_take (i := 11) (v := ?_) rfl (by kernel_rfl) (by kernel_rfl) (by kernel_rfl) (fun _ _ _ h => h) (Or.inl ⟨by rfl, ?_⟩) (by assumption) ?_
    rotate_left
    · (intro w' hSw; (try dsimp only at hSw); obtain ⟨y0, y1⟩ := hSw; go_simp; (try (with_reducible rfl)))
    simp only [Act.put, List.getElem_toArray, List.getElem_cons_succ, List.getElem_cons_zero, List.setIfInBounds_toArray, List.set_cons_succ, List.set_cons_zero]
    refine wpAnyH_ready (rs := [12, 17]) (by kernel_rfl) (by simp) ?_
    refine AllReadyH.cons rfl (fun K hK => ?_) ?_
    · skip
      go_simp
      (go_at_call 13; refine (AC.out _ KD.out).mono ?_; rintro e w5 ⟨A1, m1, c1, A2, m2, c2, p, er, rfl, hsi, kc⟩; (try go_simp))
      have KC := Lib.hid (KD.out.trans kc (fun _ _ h => h))
      refine hK.out _ _ ⟨(READ.out _ KC.out).1, (READ.out _ KC.out).2.1⟩ (fun hHeld => ?_)
      clear hK K
      have HSD := Lib.hid hsi
      have hsz5 := KC.out.size
      clear hsi kc
      refine wpAnyH_take (i := 13) (v := ?_) rfl (by kernel_rfl) (by kernel_rfl) (by kernel_rfl) (fun _ _ _ h => h) (Or.inl ⟨by rfl, ?_⟩) (by assumption) ?_
      rotate_left
      · (intro w' hSw; (try dsimp only at hSw); obtain ⟨y0, y1⟩ := hSw; go_simp; (try (with_reducible rfl)))
      simp only [Act.put, List.getElem_toArray, List.getElem_cons_succ, List.getElem_cons_zero, List.setIfInBounds_toArray, List.set_cons_succ, List.set_cons_zero]
      refine wpAnyH_take (i := 14) (v := ?_) rfl (by kernel_rfl) (by kernel_rfl) (by kernel_rfl) (fun _ _ _ h => h) (Or.inl ⟨by rfl, ?_⟩) (by assumption) ?_
      rotate_left
      · (intro w' hSw; (try dsimp only at hSw); obtain ⟨y0, y1⟩ := hSw; go_simp; (try (with_reducible rfl)))
      simp only [Act.put, List.getElem_toArray, List.getElem_cons_succ, List.getElem_cons_zero, List.setIfInBounds_toArray, List.set_cons_succ, List.set_cons_zero]
      refine wpAnyH_take (i := 15) (v := ?_) rfl (by kernel_rfl) (by kernel_rfl) (by kernel_rfl) (fun _ _ _ h => h) (Or.inl ⟨by rfl, ?_⟩) (by assumption) ?_
      rotate_left
      · (intro w' hSw; (try dsimp only at hSw); obtain ⟨y0, y1⟩ := hSw; go_simp; (try (with_reducible rfl)))
      simp only [Act.put, List.getElem_toArray, List.getElem_cons_succ, List.getElem_cons_zero, List.setIfInBounds_toArray, List.set_cons_succ, List.set_cons_zero]
      refine wpAnyH_take (i := 16) (v := ?_) rfl (by kernel_rfl) (by kernel_rfl) (by kernel_rfl) (fun _ _ _ h => h) (Or.inl ⟨by rfl, ?_⟩) (by assumption) ?_
      rotate_left
      · (intro w' hSw; (try dsimp only at hSw); obtain ⟨y0, y1⟩ := hSw; go_simp; (try (with_reducible rfl)))
      simp only [Act.put, List.getElem_toArray, List.getElem_cons_succ, List.getElem_cons_zero, List.setIfInBounds_toArray, List.set_cons_succ, List.set_cons_zero]
      refine wpAnyH_ready (rs := [17]) (by kernel_rfl) (by simp) ?_
      refine AllReadyH.cons rfl (fun K hK => ?_) AllReadyH.nil
      go_simp
      have ka := Keeps.one w5 (.cells #[.slice none 0 0, .slice none 0 0] 27)
      refine hK.out _ _ ⟨(ka.cell (cell_ltk hHeld.1) (fun h => h)).trans hHeld.1, (ka.cell (cell_ltk hHeld.2) (fun h => h)).trans hHeld.2⟩ (fun hHeld => ?_)
      clear hK K
      have zx := Loc.new (w := w5) (R := fun _ => False) (fun h => h) [.slice none 0 0, .slice none 0 0] 27
      obtain ⟨X, hX⟩ : ∃ X, X = w5.heap.size := ⟨_, rfl⟩
      obtain ⟨w6, hw⟩ : ∃ w6, w6 = w5.alloc (.cells #[.slice none 0 0, .slice none 0 0] 27) := ⟨_, rfl⟩
      have zx : Loc w6 (fun _ => False) X [.slice none 0 0, .slice none 0 0] := by rw [hw, hX]; exact zx
      rw [← hX]
      rw [← hw] at ka hHeld ⊢
      have K6 := Lib.hid (KC.out.trans ka (fun _ _ h => h))
      have XF : w3.heap.size ≤ X := by rw [hX]; exact hsz5
      have ZX := Lib.hid zx
      have HSD6 := Lib.hid (HSD.out.keep ka)
      clear ka zx hw hX
      refine wpAnyH_ready (rs := [18]) (by kernel_rfl) (by simp) ?_
      refine AllReadyH.cons rfl (fun K hK => ?_) AllReadyH.nil
      have x0 := ZX.out.cells 0 _ rfl
      have x1 := ZX.out.cells 1 _ rfl
      have g0 := ZX.out.fz 0
      have g1 := ZX.out.fz 1
      go_simp
      have kX : Keeps (fun b => w3.heap.size ≤ b) w3 ((w6.setCell ⟨X, 0, none⟩ (.slice A1 m1 c1)).setCell ⟨X, 1, none⟩ (.slice A2 m2 c2)) := ((K6.out.mono (T := fun b => w3.heap.size ≤ b) (fun _ _ h => h.elim)).setCell (p := ⟨X, 0, none⟩) (fun _ => XF) _).setCell (p := ⟨X, 1, none⟩) (fun _ => XF) _
      have KX := Lib.hid (kback kX rfl)
      refine hK.out _ _ ⟨(READ.out _ KX.out).1, (READ.out _ KX.out).2.1⟩ (fun hHeld => ?_)
      clear hK K x0 x1 g0 g1
      refine wpAnyH_take (i := 19) (v := ?_) rfl (by kernel_rfl) (by kernel_rfl) (by kernel_rfl) (fun _ _ _ h => h) (Or.inl ⟨by rfl, ?_⟩) (by assumption) ?_
      rotate_left
      · (intro w' hSw; (try dsimp only at hSw); obtain ⟨y0, y1⟩ := hSw; go_simp; (try (with_reducible rfl)))
      simp only [Act.put, List.getElem_toArray, List.getElem_cons_succ, List.getElem_cons_zero, List.setIfInBounds_toArray, List.set_cons_succ, List.set_cons_zero]
      refine wpAnyH_take (i := 20) (v := ?_) rfl (by kernel_rfl) (by kernel_rfl) (by kernel_rfl) (fun _ _ _ h => h) (Or.inl ⟨by rfl, ?_⟩) (by assumption) ?_
      rotate_left
      · (intro w' hSw; (try dsimp only at hSw); obtain ⟨y0, y1⟩ := hSw; go_simp; (try (with_reducible rfl)))
      simp only [Act.put, List.getElem_toArray, List.getElem_cons_succ, List.getElem_cons_zero, List.setIfInBounds_toArray, List.set_cons_succ, List.set_cons_zero]
      refine wpAnyH_done (by kernel_rfl) ?_ _
      go_wp2_with fail
      go_meet
      refine ⟨X, A1, m1, c1, A2, m2, c2, p, er, rfl, rfl, rfl, ?_, (ZX.out.set 0 (.slice A1 m1 c1) (by simp)).set 1 (.slice A2 m2 c2) (by simp), KX.out⟩
      exact side_set HSD6.out ZX.out
    refine AllReadyH.cons rfl (fun K hK => ?_) AllReadyH.nil
    go_simp
    have ka := Keeps.one w4 (.cells #[.slice none 0 0, .slice none 0 0] 27)
    refine hK.out _ _ ⟨(ka.cell (cell_ltk hHeld.1) (fun h => h)).trans hHeld.1, (ka.cell (cell_ltk hHeld.2) (fun h => h)).trans hHeld.2⟩ (fun hHeld => ?_)
    clear hK K
    have zx := Loc.new (w := w4) (R := fun _ => False) (fun h => h) [.slice none 0 0, .slice none 0 0] 27
    obtain ⟨X, hX⟩ : ∃ X, X = w4.heap.size := ⟨_, rfl⟩
    obtain ⟨w6, hw⟩ : ∃ w6, w6 = w4.alloc (.cells #[.slice none 0 0, .slice none 0 0] 27) := ⟨_, rfl⟩
    have zx : Loc w6 (fun _ => False) X [.slice none 0 0, .slice none 0 0] := by rw [hw, hX]; exact zx
    rw [← hX]
    rw [← hw] at ka hHeld ⊢
    have K6 := Lib.hid (KD.out.trans ka (fun _ _ h => h))
    have XF : w3.heap.size ≤ X := by rw [hX]; exact KD.out.size
    have ZX := Lib.hid zx
    clear ka zx hw hX
    refine wpAnyH_ready (rs := [12]) (by kernel_rfl) (by simp) ?_
    refine AllReadyH.cons rfl (fun K hK => ?_) AllReadyH.nil
    go_simp
    (go_at_call 13; refine (AC.out _ K6.out).mono ?_; rintro e w5 ⟨A1, m1, c1, A2, m2, c2, p, er, rfl, hsi, kc⟩; (try go_simp))
    have KC := Lib.hid (K6.out.trans kc (fun _ _ h => h))
    refine hK.out _ _ ⟨(READ.out _ KC.out).1, (READ.out _ KC.out).2.1⟩ (fun hHeld => ?_)
    clear hK K
    have HSD := Lib.hid hsi
    have ZX5 := Lib.hid (ZX.out.keeps kc)
    clear hsi kc
    refine wpAnyH_take (i := 13) (v := ?_) rfl (by kernel_rfl) (by kernel_rfl) (by kernel_rfl) (fun _ _ _ h => h) (Or.inl ⟨by rfl, ?_⟩) (by assumption) ?_
    rotate_left
    · (intro w' hSw; (try dsimp only at hSw); obtain ⟨y0, y1⟩ := hSw; go_simp; (try (with_reducible rfl)))
    simp only [Act.put, List.getElem_toArray, List.getElem_cons_succ, List.getElem_cons_zero, List.setIfInBounds_toArray, List.set_cons_succ, List.set_cons_zero]
    refine wpAnyH_take (i := 14) (v := ?_) rfl (by kernel_rfl) (by kernel_rfl) (by kernel_rfl) (fun _ _ _ h => h) (Or.inl ⟨by rfl, ?_⟩) (by assumption) ?_
    rotate_left
    · (intro w' hSw; (try dsimp only at hSw); obtain ⟨y0, y1⟩ := hSw; go_simp; (try (with_reducible rfl)))
    simp only [Act.put, List.getElem_toArray, List.getElem_cons_succ, List.getElem_cons_zero, List.setIfInBounds_toArray, List.set_cons_succ, List.set_cons_zero]
    refine wpAnyH_take (i := 15) (v := ?_) rfl (by kernel_rfl) (by kernel_rfl) (by kernel_rfl) (fun _ _ _ h => h) (Or.inl ⟨by rfl, ?_⟩) (by assumption) ?_
    rotate_left
    · (intro w' hSw; (try dsimp only at hSw); obtain ⟨y0, y1⟩ := hSw; go_simp; (try (with_reducible rfl)))
    simp only [Act.put, List.getElem_toArray, List.getElem_cons_succ, List.getElem_cons_zero, List.setIfInBounds_toArray, List.set_cons_succ, List.set_cons_zero]
    refine wpAnyH_take (i := 16) (v := ?_) rfl (by kernel_rfl) (by kernel_rfl) (by kernel_rfl) (fun _ _ _ h => h) (Or.inl ⟨by rfl, ?_⟩) (by assumption) ?_
    rotate_left
    · (intro w' hSw; (try dsimp only at hSw); obtain ⟨y0, y1⟩ := hSw; go_simp; (try (with_reducible rfl)))
    simp only [Act.put, List.getElem_toArray, List.getElem_cons_succ, List.getElem_cons_zero, List.setIfInBounds_toArray, List.set_cons_succ, List.set_cons_zero]
    refine wpAnyH_ready (rs := [18]) (by kernel_rfl) (by simp) ?_
    refine AllReadyH.cons rfl (fun K hK => ?_) AllReadyH.nil
    have x0 := ZX5.out.cells 0 _ rfl
    have x1 := ZX5.out.cells 1 _ rfl
    have g0 := ZX5.out.fz 0
    have g1 := ZX5.out.fz 1
    go_simp
    have kX : Keeps (fun b => w3.heap.size ≤ b) w3 ((w5.setCell ⟨X, 0, none⟩ (.slice A1 m1 c1)).setCell ⟨X, 1, none⟩ (.slice A2 m2 c2)) := ((KC.out.mono (T := fun b => w3.heap.size ≤ b) (fun _ _ h => h.elim)).setCell (p := ⟨X, 0, none⟩) (fun _ => XF) _).setCell (p := ⟨X, 1, none⟩) (fun _ => XF) _
    have KX := Lib.hid (kback kX rfl)
    refine hK.out _ _ ⟨(READ.out _ KX.out).1, (READ.out _ KX.out).2.1⟩ (fun hHeld => ?_)
    clear hK K x0 x1 g0 g1
    refine wpAnyH_take (i := 19) (v := ?_) rfl (by kernel_rfl) (by kernel_rfl) (by kernel_rfl) (fun _ _ _ h => h) (Or.inl ⟨by rfl, ?_⟩) (by assumption) ?_
    rotate_left
    · (intro w' hSw; (try dsimp only at hSw); obtain ⟨y0, y1⟩ := hSw; go_simp; (try (with_reducible rfl)))
    simp only [Act.put, List.getElem_toArray, List.getElem_cons_succ, List.getElem_cons_zero, List.setIfInBounds_toArray, List.set_cons_succ, List.set_cons_zero]
    refine wpAnyH_take (i := 20) (v := ?_) rfl (by kernel_rfl) (by kernel_rfl) (by kernel_rfl) (fun _ _ _ h => h) (Or.inl ⟨by rfl, ?_⟩) (by assumption) ?_
    rotate_left
    · (intro w' hSw; (try dsimp only at hSw); obtain ⟨y0, y1⟩ := hSw; go_simp; (try (with_reducible rfl)))
    simp only [Act.put, List.getElem_toArray, List.getElem_cons_succ, List.getElem_cons_zero, List.setIfInBounds_toArray, List.set_cons_succ, List.set_cons_zero]
    refine wpAnyH_done (by kernel_rfl) ?_ _
    go_wp2_with fail
    go_meet
    refine ⟨X, A1, m1, c1, A2, m2, c2, p, er, rfl, rfl, rfl, ?_, (ZX5.out.set 0 (.slice A1 m1 c1) (by simp)).set 1 (.slice A2 m2 c2) (by simp), KX.out⟩
    exact side_set HSD.out ZX5.out
  case rest =>
    obtain ⟨X, A1, m1, c1, A2, m2, c2, p, er, rfl, rfl, rfl, hsi, hx, kx⟩ := hcut
    have HX := Lib.hid hx
    have KX := Lib.hid kx
    have HSD := Lib.hid hsi
    obtain ⟨r0, r1, r2, r3⟩ := READ.out _ kx
    have x0 := hx.cells 0 _ rfl
    have x1 := hx.cells 1 _ rfl
    clear hsi hx kx
    have HKW : Hid (∀ wq, Keeps (fun _ => False) wc wq → Keeps (fun _ => False) w wq) := Lib.hid fun wq kq => (K3.out.trans KX.out (fun _ _ h => h)).trans kq (fun _ _ h => h)
    rcases HSD.out with ⟨hb2, rfl⟩ | ⟨hb2, rfl, rfl, hd⟩
    · unfold bothTwo at hb2
      rw [Bool.and_eq_true, decide_eq_true_eq, decide_eq_true_eq, ← HLI.out, ← HLK.out] at hb2
      obtain ⟨e1, e2⟩ := hb2
      rw [e1] at r2
      rw [e2] at r3
      clear e1 e2
      go_wp2_with fail
      go_ret
      exact ⟨rfl, HKW.out _ (Keeps.refl _ _)⟩
    · unfold bothTwo at hb2
      rw [← HLI.out, ← HLK.out] at hb2 hd
      have HD := Lib.hid hd
      clear hd
      have tests : ∃ t1 t2 : Bool, (Li == 2) = t1 ∧ (Lk == 2) = t2 ∧ (t1 && t2) = false := ⟨_, _, rfl, rfl, by rw [← hb2]; simp [BEq.beq]⟩
      obtain ⟨t1, t2, q5, q6, q7⟩ := tests
      have HTOP : Hid (∃ sB pB qB : List UInt8, TopR wc A1 sB pB qB ∧ ((Lk ≤ Li ∧ sB = sg k ∧ pB = sg i ∧ qB = [99]) ∨ (¬ Lk ≤ Li ∧ sB = sg i ∧ pB = [97] ∧ qB = sg k))) := Lib.hid (by
        rcases HD.out with ⟨h1, h2⟩ | ⟨h1, h2⟩
        · exact ⟨_, _, _, h2, .inl ⟨h1, rfl, rfl, rfl⟩⟩
        · exact ⟨_, _, _, h2, .inr ⟨h1, rfl, rfl, rfl⟩⟩)
      obtain ⟨sB, pB, qB, htop, hwhich⟩ := HTOP.out
      have HWH := Lib.hid hwhich
      obtain ⟨b4, off, a2, c2', x, y, b2, off2, rfl, hx7, hy7, ⟨kk, ll, nn, n0, n1, n2⟩, n3, n4, rfl, l0, l1, nx, ny⟩ := htop.ex
      have NN := Lib.hid (And.intro n0 (And.intro n1 (And.intro n2 (And.intro n3 (And.intro n4 (And.intro l0 (And.intro l1 (And.intro nx ny))))))))
      clear n0 n1 n2 n3 n4 l0 l1 nx ny
      obtain ⟨S3, hS3⟩ : ∃ S3, S3 = ofL sB := ⟨_, rfl⟩
      obtain ⟨P3, hP3⟩ : ∃ P3, P3 = ofL pB := ⟨_, rfl⟩
      obtain ⟨Q3, hQ3⟩ : ∃ Q3, Q3 = ofL qB := ⟨_, rfl⟩
      rw [← hS3, ← hP3, ← hQ3] at NN
      have HS3 := Lib.hid hS3
      have HP3 := Lib.hid hP3
      have HQ3 := Lib.hid hQ3
      obtain ⟨n0, n1, n2, n3, n4, l0, l1, nx, ny⟩ := NN.out
      have e20 : off + 20 = off + 4 * 5 := by omega
      clear hb2 htop hwhich hS3 hP3 hQ3 HTOP HD e20
      have hxI : (x : Int) < 7 := by omega
      have hyI : (y : Int) < 7 := by omega
      have hx0 : (0 : Int) ≤ (x : Int) := by omega
      have hy0 : (0 : Int) ≤ (y : Int) := by omega
      have ky := Keeps.one wc (.cells #[.int .i64 kk, .int .i64 ll, .int .i64 nn, .string S3, .slice (some ⟨b2, off2, none⟩) 2 c2'] 33)
      have zy := Loc.new (w := wc) (R := fun _ => False) (fun h => h) [.int .i64 kk, .int .i64 ll, .int .i64 nn, .string S3, .slice (some ⟨b2, off2, none⟩) 2 c2'] 33
      cases t1 <;> cases t2
      all_goals first | (exfalso; revert q7; decide) | skip
      all_goals
        go_upto_region 12 with fail
        obtain ⟨Y, hY⟩ : ∃ Y, Y = wc.heap.size := ⟨_, rfl⟩
        obtain ⟨w6, hw6⟩ : ∃ w6, w6 = wc.alloc (.cells #[.int .i64 kk, .int .i64 ll, .int .i64 nn, .string S3, .slice (some ⟨b2, off2, none⟩) 2 c2'] 33) := ⟨_, rfl⟩
        have zy : Loc w6 (fun _ => False) Y [.int .i64 kk, .int .i64 ll, .int .i64 nn, .string S3, .slice (some ⟨b2, off2, none⟩) 2 c2'] := by rw [hw6, hY]; exact zy
        rw [← hY]
        rw [← hw6] at ky ⊢
        have up : ∀ {b o : Nat} {v : Value}, wc.cell? ⟨b, o, none⟩ = some v → w6.cell? ⟨b, o, none⟩ = some v := fun hc => (ky.cell (cell_ltk hc) (fun h => h)).trans hc
        have y3 := zy.cells 3 _ rfl
        have y4 := zy.cells 4 _ rfl
        have x0 := up x0
        have x1 := up x1
        have r0 := up r0
        have r1 := up r1
        have r2 := up r2
        have r3 := up r3
        have l0 := up l0
        have l1 := up l1
        have nx := up nx
        have ny := up ny
        have KY := Lib.hid ky
        clear hw6 hY ky zy up n0 n1 n2 n3 n4 NN
        by_cases hle : Lk ≤ Li
        · have hd8 : decide (Lk ≤ Li) = true := decide_eq_true hle
          have hq8 : ((S3.toList == Sk.toList) = true ∧ (P3.toList == Si.toList) = true) ∧ Q3 = { data := #[99] } := by
            rcases HWH.out with ⟨_, h1, h2, h3⟩ | ⟨h, _⟩
            · rw [HS3.out, HP3.out, HQ3.out, HSI.out, HSK.out, h1, h2, h3]
              exact ⟨⟨by simp, by simp⟩, rfl⟩
            · exact absurd hle h
          obtain ⟨⟨g1, g2⟩, rfl⟩ := hq8
          go_quiet (fail)
          have kd := drew_keeps w6 nq
          go_wp2_with fail
          go_quiet (fail)
          go_wp2_with fail
          go_ret
          exact ⟨rfl, HKW.out _ ((KY.out.trans (drew_keeps _ _) (fun _ _ h => h)).trans (drew_keeps _ _) (fun _ _ h => h))⟩
        · have hd8 : decide (Lk ≤ Li) = false := decide_eq_false hle
          have hq8 : ((S3.toList == Si.toList) = true ∧ (Q3.toList == Sk.toList) = true) ∧ P3 = { data := #[97] } := by
            rcases HWH.out with ⟨h, _⟩ | ⟨_, h1, h2, h3⟩
            · exact absurd h hle
            · rw [HS3.out, HP3.out, HQ3.out, HSI.out, HSK.out, h1, h2, h3]
              exact ⟨⟨by simp, by simp⟩, rfl⟩
          obtain ⟨⟨g1, g2⟩, rfl⟩ := hq8
          go_quiet (fail)
          go_wp2_with fail
          go_quiet (fail)
          go_wp2_with fail
          go_ret
          exact ⟨rfl, HKW.out _ ((KY.out.trans (drew_keeps _ _) (fun _ _ h => h)).trans (drew_keeps _ _) (fun _ _ h => h))⟩

end Go.Proofs.YtgelggdgbmldiaaDoor
