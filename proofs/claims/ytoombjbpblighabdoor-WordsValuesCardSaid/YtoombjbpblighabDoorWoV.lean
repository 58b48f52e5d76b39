/-
  Layer 22: the contract of Line. Written by an AI agent (wov.py).
-/
import Derived.Test.YtoombjbpblighabDoorWoU
namespace Go.Proofs.YtoombjbpblighabDoor
open Go Go.RowKit Go.Shelf
set_option linter.unusedVariables false
set_option linter.unusedSimpArgs false
set_option maxRecDepth 100000

def LineE (m : Cm) (w : World) (e : Ending) (w' : World) : Prop := (∃ s x, e = .returned (.tuple #[.string s, .int .i64 x]) ∧ match lineN m with | some l => s = ofL l ∧ x = 0 | none => s = { data := #[] } ∧ x = 1) ∧ Keeps (fun _ => False) w w'
theorem say_len (k : Nat) (m : Cm) (hm : SzC m) : (sayN k m).1.length ≤ 10100 := by
  have itoa_small : ∀ n, Rng n → (Lib.itoa n).length ≤ 21 := fun n h => Lib.itoa_length_le n h.1 h.2
  match k with
  | 0 => have := hm.a; show m.a.length ≤ _; omega
  | 1 => have := hm.b; show m.b.length ≤ _; omega
  | 2 => have := itoa_small m.n hm.n; show (Lib.itoa m.n).length ≤ _; omega
  | k + 3 =>
    show (quotedN m.v).length ≤ _
    have h1 := itoa_small m.v.n hm.vn
    have h2 := hm.s
    unfold quotedN wordN
    repeat' split
    all_goals simp [trueB, falseB]
    all_goals omega
theorem line_of {m : Cm} {ks : List Nat} (h : kindsN m.verb = some ks) : lineN m = match lineGo ks m (zeroC m.verb) m.verb with | none => none | some r => if r.1.eqB m && decide (r.2.length ≤ 80) then some r.2 else none := by
  unfold lineN
  rw [h]
  rfl
theorem go_drop (ks : List Nat) (m again : Cm) (line : List UInt8) (i : Nat) (h : i < ks.length) : lineGo (ks.drop i) m again line = if (sayN (ks.getD i 0) m).2 = true then lineGo (ks.drop (i + 1)) m (hearN (ks.getD i 0) (sayN (ks.getD i 0) m).1 again) (line ++ 32 :: (sayN (ks.getD i 0) m).1) else none := by
  have e : ks.getD i 0 = ks[i] := by simp [List.getD, h]
  rw [e, List.drop_eq_getElem_cons h]
  rfl
set_option maxHeartbeats 16000000 in
theorem line_any (m : Cm) (hm : SzC m) (w : World) (hw : WordW w) : Calls Tryd.prog 9 #[cmdV m] w (LineE m w) := by
  have PC : Hid (∀ w, Calls Tryd.prog 11 #[.string (ofL m.verb)] w fun e w' => PartsE m.verb w e w') := Lib.hid fun w => by
    have h := parts_any (ofL m.verb) w
    rw [ofL_list] at h
    exact h
  have SAY : Hid (∀ k wq, WordW wq → Calls Tryd.prog (sayF k) #[.agg #[.string (ofL m.verb), .string (ofL m.a), .string (ofL m.b), .int .i64 m.n, .int .i64 m.v.ty, .int .i64 m.v.n, .string (ofL m.v.s)]] wq (SayE k m wq)) := Lib.hid fun k wq h => say_any k m hm wq h
  have HW := Lib.hid hw
  have HM := Lib.hid hm
  clear hw hm
  unfold cmdV
  go_enter Tryd.func9, Tryd.ntmps9
  go_wp2_with fail
  generalize hwA : w.alloc _ = wA
  have hC : CmdAt wA w.heap.size m := by rw [← hwA]; exact CmdAt.fresh w m
  have kA : Keeps (fun _ => False) w wA := by rw [← hwA]; exact (Keeps.refl _ _).alloc _
  obtain ⟨pc, hpc⟩ : ∃ pc, pc = w.heap.size := ⟨_, rfl⟩
  rw [← hpc] at hC ⊢
  have HPC := Lib.hid hpc
  clear hpc
  refine (PC.out _).mono ?_
  rintro e w1 ⟨v, b, rfl, k1, hk⟩
  have HC1 := Lib.hid (hC.keep k1 (fun h => h))
  have K1 : Hid (Keeps (fun _ => False) w w1) := Lib.hid (kA.trans k1 (fun _ _ h => h))
  clear hwA hC kA k1 PC
  cases hks : kindsN m.verb with
  | none =>
    rw [hks] at hk
    simp only at hk
    subst hk
    have HL : Hid (lineN m = none) := Lib.hid (by unfold lineN; rw [hks])
    clear hks
    go_wp2
    go_ret2
    exact ⟨⟨_, _, rfl, by rw [HL.out]; exact ⟨rfl, rfl⟩⟩, K1.out⟩
  | some ks =>
    rw [hks] at hk
    simp only at hk
    obtain ⟨rfl, hpa⟩ := hk
    obtain ⟨B, rfl, hpb⟩ := parts_base hpa
    have HLN := Lib.hid (line_of hks)
    obtain ⟨hk3, hke⟩ := kinds_small hks
    have HKE := Lib.hid hke
    have hpb0 := Lib.hid hpb
    obtain ⟨n, hn⟩ : ∃ n, n = ks.length := ⟨_, rfl⟩
    rw [← hn] at hk3 ⊢
    have HN := Lib.hid hn
    clear hpa hpb hke hn hks
    have c0 := HC1.out.c0
    have hl := HC1.out.lt
    go_wp2_with fail
    generalize hwL : w1.alloc _ = wL
    have hA0 : CmdAt wL w1.heap.size (zeroC m.verb) := by rw [← hwL]; exact CmdAt.fresh w1 (zeroC m.verb)
    have kL : Keeps (fun _ => False) w1 wL := by rw [← hwL]; exact (Keeps.refl _ _).alloc _
    obtain ⟨pa, hpa⟩ : ∃ pa, pa = w1.heap.size := ⟨_, rfl⟩
    rw [← hpa] at hA0 ⊢
    have HKW : Hid (∀ wr, Keeps (fun q => q = pa) wL wr → Keeps (fun _ => False) w wr) := Lib.hid fun wr k => (K1.out.trans kL (fun _ _ h => h)).trans k (fun x hx e => by have := K1.out.size; omega)
    have HCR : Hid (∀ wr, Keeps (fun q => q = pa) wL wr → CmdAt wr pc m) := Lib.hid fun wr k => (HC1.out.keep kL (fun h => h)).keep k (fun e => by omega)
    have HWR : Hid (∀ wr, Keeps (fun q => q = pa) wL wr → WordW wr) := Lib.hid fun wr k => HW.out.keep (HKW.out wr k)
    have HPQ : Hid (∀ wr, Keeps (fun q => q = pa) wL wr → 0 < n → ∃ q : Nat, B = some ⟨q, 0, none⟩ ∧ q < wr.heap.size ∧ ∀ i, i < n → wr.cell? ⟨q, i * 2, none⟩ = some (.func (.func (sayF (ks.getD i 0))) #[] #[]) ∧ wr.cell? ⟨q, i * 2 + 1, none⟩ = some (.func (.func (hearF (ks.getD i 0))) #[] #[])) := Lib.hid fun wr k h0 => by
      obtain ⟨q, e, h1, h2⟩ := hpb0.out (by rw [← HN.out]; exact h0)
      have hq : ¬ q = pa := by omega
      have hqL : q < wL.heap.size := Nat.lt_of_lt_of_le h1 kL.size
      refine ⟨q, e, Nat.lt_of_lt_of_le hqL k.size, fun i hi => ?_⟩
      obtain ⟨a1, a2⟩ := h2 i (by rw [← HN.out]; exact hi)
      exact ⟨(k.cell hqL hq).trans ((kL.cell h1 (fun h => h)).trans a1), (k.cell hqL hq).trans ((kL.cell h1 (fun h => h)).trans a2)⟩
    have HA0 := Lib.hid hA0
    have HVL : m.verb.length ≤ 10000 := HM.out.verb
    clear hwL hA0 kL hpa c0 hl HC1 K1 hpb0 HW
    go_loopw [7, 27] (fun s7 s27 wr => ∃ (i : Nat) (again : Cm) (line : List UInt8), i ≤ n ∧ s27 = .int .i64 i ∧ s7 = .string (ofL line) ∧ lineGo ks m (zeroC m.verb) m.verb = lineGo (ks.drop i) m again line ∧ line.length ≤ 10000 + i * 10101 ∧ CmdAt wr pa again ∧ Keeps (fun q => q = pa) wL wr) (fun _ s27 _ => n + 1 - (intOf s27).toNat)
    case atStart => exact ⟨0, zeroC m.verb, m.verb, Nat.zero_le _, rfl, rfl, rfl, by omega, HA0.out, Keeps.refl _ _⟩
    case round =>
      obtain ⟨i, again, line, hi, rfl, rfl, hgo, hll, hca, hkr⟩ := hrel
      have HGO := Lib.hid hgo
      have HCA := Lib.hid hca
      have KR := Lib.hid hkr
      clear hgo hca hkr
      by_cases h3 : i < n
      · obtain ⟨q, hB, hq, hcl⟩ := HPQ.out wr KR.out (by omega)
        subst hB
        obtain ⟨d0, d1⟩ := hcl i h3
        have HD := Lib.hid (go_drop ks m again line i (by rw [← HN.out]; exact h3))
        have hkm := HKE.out (ks.getD i 0) (by
          have hi2 : i < ks.length := by rw [← HN.out]; exact h3
          rw [show ks.getD i 0 = ks[i] by simp [List.getD, hi2]]
          exact List.getElem_mem _)
        obtain ⟨k, hk⟩ : ∃ k, k = ks.getD i 0 := ⟨_, rfl⟩
        rw [← hk] at hkm d0 d1 HD
        have SC := Lib.hid (SAY.out k)
        have HSL := say_len k m HM.out
        have HHE : Hid (∀ wq, WordW wq → CmdAt wq pa again → Calls Tryd.prog (hearF k) #[.pointer (some ⟨pa, 0, none⟩), .string (ofL (sayN k m).1)] wq (HearE k (sayN k m).1 pa again wq)) := Lib.hid fun wq h1 h2 => hear_any k (sayN k m).1 (by omega) pa again wq h1 h2
        unfold SayE at SC
        unfold HearE at HHE
        have h3I : (i : Int) < (n : Int) := by omega
        have hi0 : (0 : Int) ≤ (i : Int) := by omega
        have h3d : decide ((i : Int) < (n : Int)) = true := decide_eq_true h3I
        obtain ⟨b, hb⟩ : ∃ b, b = (sayN k m).2 := ⟨_, rfl⟩
        obtain ⟨W, hW⟩ : ∃ W, W = (sayN k m).1 := ⟨_, rfl⟩
        rw [← hb] at SC HD
        rw [← hW] at SC HD HHE HSL
        have hX : ofL line ++ ({ data := #[32] } ++ ofL W) = ofL (line ++ 32 :: W) := bytes_ext (by rw [ofL_list, app_list, app_list, ofL_list, ofL_list]; rfl)
        have HX := Lib.hid hX
        have hWs : (ofL W).size ≤ 10100 := by rw [ofL_size]; exact HSL
        have hxs : (ofL line).size ≤ 50000 := by rw [ofL_size]; omega
        have hcr := HCR.out wr KR.out
        have c0 := hcr.c0
        have c1 := hcr.c1
        have c2 := hcr.c2
        have c3 := hcr.c3
        have c4 := hcr.c4
        have c5 := hcr.c5
        have c6 := hcr.c6
        have hl := hcr.lt
        clear hcr hcl hk hb hW hX
        obtain ⟨x, hx⟩ : ∃ x, x = ofL line := ⟨_, rfl⟩
        rw [← hx] at HX hxs ⊢
        clear hx
        have hk4 : k = 0 ∨ k = 1 ∨ k = 2 ∨ k = 3 := by omega
        rcases hk4 with rfl | rfl | rfl | rfl
        · replace d0 : wr.cell? ⟨q, i * 2, none⟩ = some (.func (.func 13) #[] #[]) := d0
          replace d1 : wr.cell? ⟨q, i * 2 + 1, none⟩ = some (.func (.func 15) #[] #[]) := d1
          have SC : Hid (∀ wq, WordW wq → Calls Tryd.prog 13 #[.agg #[.string (ofL m.verb), .string (ofL m.a), .string (ofL m.b), .int .i64 m.n, .int .i64 m.v.ty, .int .i64 m.v.n, .string (ofL m.v.s)]] wq fun e w' => e = .returned (.tuple #[.string (ofL W), .bool b]) ∧ Keeps (fun _ => False) wq w') := SC
          have HHE : Hid (∀ wq, WordW wq → CmdAt wq pa again → Calls Tryd.prog 15 #[.pointer (some ⟨pa, 0, none⟩), .string (ofL W)] wq fun e w' => e = .returned (.tuple #[]) ∧ CmdAt w' pa (hearN 0 W again) ∧ Keeps (fun q => q = pa) wq w') := HHE
          go_wp2_with fail
          have kx := keep_up pa ((Keeps.refl (fun _ => False) wr).alloc (.cells #[.func (.func 13) #[] #[], .func (.func 15) #[] #[]] 45))
          have KX := Lib.hid (KR.out.trans kx (fun _ _ h => h))
          clear kx
          refine (SC.out _ (HWR.out _ KX.out)).mono ?_
          rintro e w2 ⟨rfl, k2⟩
          have e1 : w2.cell? ⟨wr.heap.size, 1, none⟩ = some (.func (.func 15) #[] #[]) := (k2.cell (by simp) (fun h => h)).trans (by simp)
          have K2 := Lib.hid (KX.out.trans (keep_up pa k2) (fun _ _ h => h))
          have HCA2 := Lib.hid (HCA.out.keep (((Keeps.refl (fun _ => False) wr).alloc (.cells #[.func (.func 13) #[] #[], .func (.func 15) #[] #[]] 45)).trans k2 (fun _ _ h => h)) (fun h => h))
          clear k2 c0 c1 c2 c3 c4 c5 c6 hl d0 d1
          cases b with
          | false =>
            have HF : Hid (lineN m = none) := Lib.hid (by rw [HLN.out, HGO.out, HD.out]; rfl)
            go_wp2
            go_ret2
            exact ⟨⟨_, _, rfl, by rw [HF.out]; exact ⟨rfl, rfl⟩⟩, HKW.out _ K2.out⟩
          | true =>
            have HF : Hid (lineGo ks m (zeroC m.verb) m.verb = lineGo (ks.drop (i + 1)) m (hearN 0 W again) (line ++ 32 :: W)) := Lib.hid (by rw [HGO.out, HD.out]; rfl)
            have hl2 := cell_ltk e1
            go_wp2_with fail
            refine (HHE.out w2 (HWR.out _ K2.out) HCA2.out).mono ?_
            rintro e w3 ⟨rfl, ca3, k3⟩
            have HCA3 := Lib.hid ca3
            have K3 := Lib.hid (K2.out.trans k3 (fun _ _ h => h))
            clear ca3 k3 e1 hl2
            go_wp2
            go_roundw
            case rel => exact ⟨i + 1, hearN 0 W again, line ++ 32 :: W, by omega, by go_num, by rw [← HX.out], HF.out, by rw [List.length_append, List.length_cons]; omega, HCA3.out, K3.out⟩
            case measure => simp [intOf]; omega
        · replace d0 : wr.cell? ⟨q, i * 2, none⟩ = some (.func (.func 16) #[] #[]) := d0
          replace d1 : wr.cell? ⟨q, i * 2 + 1, none⟩ = some (.func (.func 17) #[] #[]) := d1
          have SC : Hid (∀ wq, WordW wq → Calls Tryd.prog 16 #[.agg #[.string (ofL m.verb), .string (ofL m.a), .string (ofL m.b), .int .i64 m.n, .int .i64 m.v.ty, .int .i64 m.v.n, .string (ofL m.v.s)]] wq fun e w' => e = .returned (.tuple #[.string (ofL W), .bool b]) ∧ Keeps (fun _ => False) wq w') := SC
          have HHE : Hid (∀ wq, WordW wq → CmdAt wq pa again → Calls Tryd.prog 17 #[.pointer (some ⟨pa, 0, none⟩), .string (ofL W)] wq fun e w' => e = .returned (.tuple #[]) ∧ CmdAt w' pa (hearN 1 W again) ∧ Keeps (fun q => q = pa) wq w') := HHE
          go_wp2_with fail
          have kx := keep_up pa ((Keeps.refl (fun _ => False) wr).alloc (.cells #[.func (.func 16) #[] #[], .func (.func 17) #[] #[]] 45))
          have KX := Lib.hid (KR.out.trans kx (fun _ _ h => h))
          clear kx
          refine (SC.out _ (HWR.out _ KX.out)).mono ?_
          rintro e w2 ⟨rfl, k2⟩
          have e1 : w2.cell? ⟨wr.heap.size, 1, none⟩ = some (.func (.func 17) #[] #[]) := (k2.cell (by simp) (fun h => h)).trans (by simp)
          have K2 := Lib.hid (KX.out.trans (keep_up pa k2) (fun _ _ h => h))
          have HCA2 := Lib.hid (HCA.out.keep (((Keeps.refl (fun _ => False) wr).alloc (.cells #[.func (.func 16) #[] #[], .func (.func 17) #[] #[]] 45)).trans k2 (fun _ _ h => h)) (fun h => h))
          clear k2 c0 c1 c2 c3 c4 c5 c6 hl d0 d1
          cases b with
          | false =>
            have HF : Hid (lineN m = none) := Lib.hid (by rw [HLN.out, HGO.out, HD.out]; rfl)
            go_wp2
            go_ret2
            exact ⟨⟨_, _, rfl, by rw [HF.out]; exact ⟨rfl, rfl⟩⟩, HKW.out _ K2.out⟩
          | true =>
            have HF : Hid (lineGo ks m (zeroC m.verb) m.verb = lineGo (ks.drop (i + 1)) m (hearN 1 W again) (line ++ 32 :: W)) := Lib.hid (by rw [HGO.out, HD.out]; rfl)
            have hl2 := cell_ltk e1
            go_wp2_with fail
            refine (HHE.out w2 (HWR.out _ K2.out) HCA2.out).mono ?_
            rintro e w3 ⟨rfl, ca3, k3⟩
            have HCA3 := Lib.hid ca3
            have K3 := Lib.hid (K2.out.trans k3 (fun _ _ h => h))
            clear ca3 k3 e1 hl2
            go_wp2
            go_roundw
            case rel => exact ⟨i + 1, hearN 1 W again, line ++ 32 :: W, by omega, by go_num, by rw [← HX.out], HF.out, by rw [List.length_append, List.length_cons]; omega, HCA3.out, K3.out⟩
            case measure => simp [intOf]; omega
        · replace d0 : wr.cell? ⟨q, i * 2, none⟩ = some (.func (.func 18) #[] #[]) := d0
          replace d1 : wr.cell? ⟨q, i * 2 + 1, none⟩ = some (.func (.func 20) #[] #[]) := d1
          have SC : Hid (∀ wq, WordW wq → Calls Tryd.prog 18 #[.agg #[.string (ofL m.verb), .string (ofL m.a), .string (ofL m.b), .int .i64 m.n, .int .i64 m.v.ty, .int .i64 m.v.n, .string (ofL m.v.s)]] wq fun e w' => e = .returned (.tuple #[.string (ofL W), .bool b]) ∧ Keeps (fun _ => False) wq w') := SC
          have HHE : Hid (∀ wq, WordW wq → CmdAt wq pa again → Calls Tryd.prog 20 #[.pointer (some ⟨pa, 0, none⟩), .string (ofL W)] wq fun e w' => e = .returned (.tuple #[]) ∧ CmdAt w' pa (hearN 2 W again) ∧ Keeps (fun q => q = pa) wq w') := HHE
          go_wp2_with fail
          have kx := keep_up pa ((Keeps.refl (fun _ => False) wr).alloc (.cells #[.func (.func 18) #[] #[], .func (.func 20) #[] #[]] 45))
          have KX := Lib.hid (KR.out.trans kx (fun _ _ h => h))
          clear kx
          refine (SC.out _ (HWR.out _ KX.out)).mono ?_
          rintro e w2 ⟨rfl, k2⟩
          have e1 : w2.cell? ⟨wr.heap.size, 1, none⟩ = some (.func (.func 20) #[] #[]) := (k2.cell (by simp) (fun h => h)).trans (by simp)
          have K2 := Lib.hid (KX.out.trans (keep_up pa k2) (fun _ _ h => h))
          have HCA2 := Lib.hid (HCA.out.keep (((Keeps.refl (fun _ => False) wr).alloc (.cells #[.func (.func 18) #[] #[], .func (.func 20) #[] #[]] 45)).trans k2 (fun _ _ h => h)) (fun h => h))
          clear k2 c0 c1 c2 c3 c4 c5 c6 hl d0 d1
          cases b with
          | false =>
            have HF : Hid (lineN m = none) := Lib.hid (by rw [HLN.out, HGO.out, HD.out]; rfl)
            go_wp2
            go_ret2
            exact ⟨⟨_, _, rfl, by rw [HF.out]; exact ⟨rfl, rfl⟩⟩, HKW.out _ K2.out⟩
          | true =>
            have HF : Hid (lineGo ks m (zeroC m.verb) m.verb = lineGo (ks.drop (i + 1)) m (hearN 2 W again) (line ++ 32 :: W)) := Lib.hid (by rw [HGO.out, HD.out]; rfl)
            have hl2 := cell_ltk e1
            go_wp2_with fail
            refine (HHE.out w2 (HWR.out _ K2.out) HCA2.out).mono ?_
            rintro e w3 ⟨rfl, ca3, k3⟩
            have HCA3 := Lib.hid ca3
            have K3 := Lib.hid (K2.out.trans k3 (fun _ _ h => h))
            clear ca3 k3 e1 hl2
            go_wp2
            go_roundw
            case rel => exact ⟨i + 1, hearN 2 W again, line ++ 32 :: W, by omega, by go_num, by rw [← HX.out], HF.out, by rw [List.length_append, List.length_cons]; omega, HCA3.out, K3.out⟩
            case measure => simp [intOf]; omega
        · replace d0 : wr.cell? ⟨q, i * 2, none⟩ = some (.func (.func 22) #[] #[]) := d0
          replace d1 : wr.cell? ⟨q, i * 2 + 1, none⟩ = some (.func (.func 25) #[] #[]) := d1
          have SC : Hid (∀ wq, WordW wq → Calls Tryd.prog 22 #[.agg #[.string (ofL m.verb), .string (ofL m.a), .string (ofL m.b), .int .i64 m.n, .int .i64 m.v.ty, .int .i64 m.v.n, .string (ofL m.v.s)]] wq fun e w' => e = .returned (.tuple #[.string (ofL W), .bool b]) ∧ Keeps (fun _ => False) wq w') := SC
          have HHE : Hid (∀ wq, WordW wq → CmdAt wq pa again → Calls Tryd.prog 25 #[.pointer (some ⟨pa, 0, none⟩), .string (ofL W)] wq fun e w' => e = .returned (.tuple #[]) ∧ CmdAt w' pa (hearN 3 W again) ∧ Keeps (fun q => q = pa) wq w') := HHE
          go_wp2_with fail
          have kx := keep_up pa ((Keeps.refl (fun _ => False) wr).alloc (.cells #[.func (.func 22) #[] #[], .func (.func 25) #[] #[]] 45))
          have KX := Lib.hid (KR.out.trans kx (fun _ _ h => h))
          clear kx
          refine (SC.out _ (HWR.out _ KX.out)).mono ?_
          rintro e w2 ⟨rfl, k2⟩
          have e1 : w2.cell? ⟨wr.heap.size, 1, none⟩ = some (.func (.func 25) #[] #[]) := (k2.cell (by simp) (fun h => h)).trans (by simp)
          have K2 := Lib.hid (KX.out.trans (keep_up pa k2) (fun _ _ h => h))
          have HCA2 := Lib.hid (HCA.out.keep (((Keeps.refl (fun _ => False) wr).alloc (.cells #[.func (.func 22) #[] #[], .func (.func 25) #[] #[]] 45)).trans k2 (fun _ _ h => h)) (fun h => h))
          clear k2 c0 c1 c2 c3 c4 c5 c6 hl d0 d1
          cases b with
          | false =>
            have HF : Hid (lineN m = none) := Lib.hid (by rw [HLN.out, HGO.out, HD.out]; rfl)
            go_wp2
            go_ret2
            exact ⟨⟨_, _, rfl, by rw [HF.out]; exact ⟨rfl, rfl⟩⟩, HKW.out _ K2.out⟩
          | true =>
            have HF : Hid (lineGo ks m (zeroC m.verb) m.verb = lineGo (ks.drop (i + 1)) m (hearN 3 W again) (line ++ 32 :: W)) := Lib.hid (by rw [HGO.out, HD.out]; rfl)
            have hl2 := cell_ltk e1
            go_wp2_with fail
            refine (HHE.out w2 (HWR.out _ K2.out) HCA2.out).mono ?_
            rintro e w3 ⟨rfl, ca3, k3⟩
            have HCA3 := Lib.hid ca3
            have K3 := Lib.hid (K2.out.trans k3 (fun _ _ h => h))
            clear ca3 k3 e1 hl2
            go_wp2
            go_roundw
            case rel => exact ⟨i + 1, hearN 3 W again, line ++ 32 :: W, by omega, by go_num, by rw [← HX.out], HF.out, by rw [List.length_append, List.length_cons]; omega, HCA3.out, K3.out⟩
            case measure => simp [intOf]; omega
      · obtain rfl : i = n := by omega
        have h3d : decide ((i : Int) < (i : Int)) = false := decide_eq_false (by omega)
        have h3n : ¬ (i : Int) < (i : Int) := by omega
        have HLN2 : Hid (lineN m = if again.eqB m && decide (line.length ≤ 80) then some line else none) := Lib.hid (by
          rw [HLN.out, HGO.out, List.drop_eq_nil_of_le (by rw [← HN.out]; exact Nat.le_refl _)]
          rfl)
        have NQ0 := neq25 again m
        unfold cmdV at NQ0
        have hcr := HCR.out wr KR.out
        have c0 := hcr.c0
        have c1 := hcr.c1
        have c2 := hcr.c2
        have c3 := hcr.c3
        have c4 := hcr.c4
        have c5 := hcr.c5
        have c6 := hcr.c6
        have g0 := HCA.out.c0
        have g1 := HCA.out.c1
        have g2 := HCA.out.c2
        have g3 := HCA.out.c3
        have g4 := HCA.out.c4
        have g5 := HCA.out.c5
        have g6 := HCA.out.c6
        have hl := hcr.lt
        have hl2 := HCA.out.lt
        have KF := Lib.hid (HKW.out _ KR.out)
        have hsx := ofL_size line
        obtain ⟨x, hx⟩ : ∃ x, x = ofL line := ⟨_, rfl⟩
        rw [← hx] at hsx ⊢
        have HX := Lib.hid hx
        clear hcr hx
        obtain ⟨b, hb⟩ : ∃ b, b = again.eqB m := ⟨_, rfl⟩
        rw [← hb] at NQ0 HLN2
        clear hb
        cases b with
        | false =>
          have HF : Hid (lineN m = none) := Lib.hid (by rw [HLN2.out]; rfl)
          have NQ : ∀ w, (binOp .neq 25 (.agg #[.string (ofL again.verb), .string (ofL again.a), .string (ofL again.b), .int .i64 again.n, .int .i64 again.v.ty, .int .i64 again.v.n, .string (ofL again.v.s)]) (.agg #[.string (ofL m.verb), .string (ofL m.a), .string (ofL m.b), .int .i64 m.n, .int .i64 m.v.ty, .int .i64 m.v.n, .string (ofL m.v.s)])).run Tryd.prog w = .ok (.bool true) w := NQ0
          clear NQ0
          go_wp2
          go_ret2
          exact ⟨⟨_, _, rfl, by rw [HF.out]; exact ⟨rfl, rfl⟩⟩, KF.out⟩
        | true =>
          have NQ : ∀ w, (binOp .neq 25 (.agg #[.string (ofL again.verb), .string (ofL again.a), .string (ofL again.b), .int .i64 again.n, .int .i64 again.v.ty, .int .i64 again.v.n, .string (ofL again.v.s)]) (.agg #[.string (ofL m.verb), .string (ofL m.a), .string (ofL m.b), .int .i64 m.n, .int .i64 m.v.ty, .int .i64 m.v.n, .string (ofL m.v.s)])).run Tryd.prog w = .ok (.bool false) w := NQ0
          clear NQ0
          by_cases h80 : line.length ≤ 80
          · have HF : Hid (lineN m = some line) := Lib.hid (by rw [HLN2.out, decide_eq_true h80]; rfl)
            have t1 : decide ((80 : Int) < (x.size : Int)) = false := decide_eq_false (by omega)
            have t2 : ¬ (80 : Int) < (x.size : Int) := by omega
            clear hsx
            go_wp2
            go_ret2
            exact ⟨⟨_, _, rfl, by rw [HF.out]; exact ⟨HX.out, rfl⟩⟩, KF.out⟩
          · have HF : Hid (lineN m = none) := Lib.hid (by rw [HLN2.out, decide_eq_false h80]; rfl)
            have t1 : decide ((80 : Int) < (x.size : Int)) = true := decide_eq_true (by omega)
            have t2 : (80 : Int) < (x.size : Int) := by omega
            clear hsx
            go_wp2
            go_ret2
            exact ⟨⟨_, _, rfl, by rw [HF.out]; exact ⟨rfl, rfl⟩⟩, KF.out⟩
end Go.Proofs.YtoombjbpblighabDoor
