/-
  Layer 14: the walk of KeepTells. Written by an AI agent.
-/
import Derived.Test.YtpighdioomjnmabKpT
import Derived.Test.YtpighdioomjnmabKpR
namespace Go.Proofs.Ytpighdioomjnmab
open Go.RowKit Go.Shelf
set_option linter.unusedVariables false
set_option linter.unusedSimpArgs false

theorem and15f : ∀ x : Fin 256, bits BinOp.and IntKind.u8 (x.val : Int) 15 = ((x.val % 16 : Nat) : Int) := by decide +kernel
theorem and15 (x : Nat) (h : x < 256) : bits BinOp.and IntKind.u8 (x : Int) 15 = ((x % 16 : Nat) : Int) := and15f ⟨x, h⟩

theorem keeps_drewNk (S : Nat → Prop) (w : World) (q : Nat) : Keeps S w (w.drewN q) := ⟨rfl, rfl, rfl, Nat.le_refl _, fun _ _ _ => rfl⟩

/-- Whether one of the first m times is not behind x. -/
def There (L : List (Int × Int)) (x : Int) (m : Nat) (th : Bool) : Prop := th = true ↔ ∃ i, i < m ∧ (L.getD i (0, 0)).1 ≤ x
theorem There.zero (L : List (Int × Int)) (x : Int) : There L x 0 false := ⟨fun h => (by cases h), fun ⟨i, h, _⟩ => absurd h (Nat.not_lt_zero _)⟩
theorem There.yes {L : List (Int × Int)} {x : Int} {m : Nat} (h : (L.getD m (0, 0)).1 ≤ x) : There L x (m + 1) true := ⟨fun _ => ⟨m, Nat.lt_succ_self _, h⟩, fun _ => rfl⟩
theorem There.no {L : List (Int × Int)} {x : Int} {m : Nat} {th : Bool} (h : There L x m th) (hm : ¬ (L.getD m (0, 0)).1 ≤ x) : There L x (m + 1) th := by
  unfold There at h ⊢
  rw [h]
  constructor
  · rintro ⟨i, h1, h2⟩
    exact ⟨i, by omega, h2⟩
  · rintro ⟨i, h1, h2⟩
    rcases Nat.lt_or_ge i m with h3 | h3
    · exact ⟨i, h3, h2⟩
    · obtain rfl : i = m := by omega
      exact absurd h2 hm

set_option maxRecDepth 100000 in
set_option maxHeartbeats 8000000 in
theorem tells_walk (x0 : Nat) (A : Option Addr) (len cap : Nat) (qs : Nat → Nat) (at' xs : Nat → Int) (x : Int) (w : World) (hx0 : x0 < 256) (hlb : len ≤ 9223372036854775807) (hA : OpsAt w A len qs at' xs) :
    Calls Try.prog 4 #[.int .u8 (x0 : Int), .slice A len cap, .int .i64 x] w fun e w' => e = .returned (.bool true) ∧ Below w.heap.size w w' := by
  have HA := Lib.hid hA
  clear hA
  obtain ⟨B, hB⟩ : ∃ B : Nat, B = w.heap.size := ⟨_, rfl⟩
  have HBs := Lib.hid hB
  have ha := and15 x0 hx0
  obtain ⟨y0, hy0⟩ : ∃ y : Nat, y = x0 % 16 := ⟨_, rfl⟩
  rw [← hy0] at ha
  have hy0b : y0 < 16 := by omega
  clear hy0
  go_enter Try.func4, Try.ntmps4
  go_wp2_with fail
  refine (Str.shown_any _).mono ?_
  rintro e w1 ⟨rfl, hb1⟩
  have HB1 := Lib.hid hb1
  clear hb1
  go_wp2_with fail
  obtain ⟨n, hn⟩ : ∃ n : Int, n = 1 + (y0 : Int) := ⟨_, rfl⟩
  rw [← hn]
  have hn1 : 1 ≤ n := by omega
  have hn16 : n ≤ 16 := by omega
  clear hn ha
  refine (knew_any _ _).mono ?_
  rintro e w2 ⟨rfl, hw2⟩
  obtain ⟨p, hp⟩ : ∃ p : Nat, p = w1.heap.size := ⟨_, rfl⟩
  have s1 := HB1.out.size
  have H2 := (keepIs_new w1 n).wider (T := fun k => B ≤ k) (fun k hk => by have : k = w1.heap.size := hk; omega)
  have K2 : Below w.heap.size w w2 := by rw [hw2]; exact HB1.out.alloc s1 _
  rw [← hw2] at H2
  rw [← hp] at H2 ⊢
  have HH2 := Lib.hid H2
  have HK2 := Lib.hid K2
  clear hw2 H2 K2 hp s1 HB1 hB
  go_wp2_with fail
  go_loopw [10] (fun s10 wr => ∃ (k : Nat) (v : Value) (M : List (Int × Int)), k ≤ 60 ∧ k ≤ len ∧ s10 = .int .i64 k ∧ KeepIs wr (fun k => B ≤ k) p n v M ∧ Tells n at' xs k M ∧ Below w.heap.size w wr) (fun s10 _ => 60 - (intOf s10).toNat)
  case atStart => exact ⟨0, _, [], by omega, by omega, rfl, HH2.out, Tells.nil hn1 _ _, HK2.out⟩
  case round =>
    obtain ⟨k, v, M, hk, hkl, rfl, hK, hR, hb⟩ := hrel
    by_cases hlt : k < len
    · by_cases h60 : k < 60
      · have hlt' : (k : Int) < (len : Int) := by omega
        have h60' : (k : Int) < 60 := by omega
        have hk0 : (0 : Int) ≤ (k : Int) := by omega
        obtain ⟨b, off, rfl, hcell⟩ := HA.out (by omega)
        have HCell := Lib.hid hcell
        obtain ⟨_, hc1, hc2⟩ := hcell k hlt
        have hbl := cell_ltk hc1
        replace hc1 := (hb.cell (p := ⟨b, off + k * 3 + 1, none⟩) hbl).trans hc1
        replace hc2 := (hb.cell (p := ⟨b, off + k * 3 + 2, none⟩) hbl).trans hc2
        have hl := hR.len
        have PC := Lib.hid (put_any wr.drew _ p n v M (hK.keep (T := fun _ => False) (Keeps.refl _ _).drew (fun _ _ _ h => h)) (by omega) (at' k) (xs k))
        obtain ⟨y, hy⟩ : ∃ y : Int, y = at' k := ⟨_, rfl⟩
        obtain ⟨z, hz⟩ : ∃ z : Int, z = xs k := ⟨_, rfl⟩
        rw [← hy, ← hz] at PC
        rw [← hy] at hc1
        rw [← hz] at hc2
        have HY := Lib.hid hy
        have HZ := Lib.hid hz
        have HR := Lib.hid hR
        have HB := Lib.hid hb
        have HK := Lib.hid hK
        clear hcell hy hz hR hb hK hl
        go_wp2_with fail
        go_still_tail 11, (by kernel_rfl)
        change wpList _ _ _ _ _ wr.drew
        go_wp2_with fail
        refine PC.out.mono ?_
        rintro e w5 ⟨v5, M5, rfl, hd5, hK5, hk5⟩
        rw [HY.out, HZ.out] at hd5
        have hR5 := HR.out.put hn1 HK.out.up hd5
        have hb5 : Below w.heap.size w w5 := (HB.out.drew).trans (hk5.toBelow HB.out.size (fun k hk => by have := HBs.out; have : B ≤ k := hk; omega))
        have hs : B ≤ wr.heap.size := by have := HBs.out; have := HB.out.size; omega
        have hK5' := hK5.wider (T := fun k => B ≤ k) (fun k hk => by
          rcases hk with h | h
          · exact h
          · have : wr.heap.size ≤ k := h.1
            omega)
        have hl5 := hR5.len
        have hp5 := hR5.pos (by omega)
        have TC := Lib.hid (times_any w5 _ p n v5 M5 hK5' (by omega))
        have HR5 := Lib.hid hR5
        have HB5 := Lib.hid hb5
        have HK5 := Lib.hid hK5'
        clear hd5 hK5 hk5 hR5 hb5 hK5' hs hc1 hc2 PC
        go_wp2_with fail
        refine TC.out.mono ?_
        rintro e w6 ⟨vt, rfl, hot, hbt, k6⟩
        obtain ⟨At, ct, rfl⟩ := own_formk hot
        have hK6 := HK5.out.keep k6 (fun _ _ _ h => h)
        have hB6 : Below w.heap.size w w6 := HB5.out.trans (k6.toBelow HB5.out.size (fun b hb => hb.elim))
        obtain ⟨N, hN⟩ : ∃ N : Nat, N = M5.length := ⟨_, rfl⟩
        rw [← hN] at hl5 hp5 hot ⊢
        have HN := Lib.hid hN
        have HK6 := Lib.hid hK6
        have HT := Lib.hid hot
        have HB6 := Lib.hid hB6
        have HUp := Lib.hid (show Up M5 from hK6.up)
        have e1 : ¬ n < (N : Int) := by omega
        have e2 : decide (n < (N : Int)) = false := decide_eq_false e1
        have e3 : ((N : Int) == 0) = false := by simp; omega
        have e4 : decide ((N : Int) = 0) = false := decide_eq_false (by omega)
        have e5 : ¬ N = 0 := by omega
        clear hN hK6 hot hbt k6 hB6 TC
        go_wp2_with fail
        clear e1 e2 e3 e4
        -- the times rise
        obtain ⟨wo, rfl⟩ : ∃ wo : World, wo = w6 := ⟨_, rfl⟩
        go_loopw [12] (fun s12 wr2 => ∃ m : Nat, m + 1 ≤ N ∧ s12 = .int .i64 ((m : Int) + 1) ∧ Keeps (fun _ => False) wo wr2) (fun s12 _ => N - (intOf s12).toNat)
        case atStart => exact ⟨0, by omega, rfl, Keeps.refl _ _⟩
        case round =>
          obtain ⟨m, hm, rfl, kr⟩ := hrel
          by_cases hmN : m + 1 < N
          · have hmN' : (m : Int) + 1 < (N : Int) := by omega
            have hmN0 : (m : Int) < (N : Int) := by omega
            have hm0 : (0 : Int) ≤ (m : Int) := by omega
            have hm1 : (0 : Int) ≤ (m : Int) + 1 := by omega
            have hmt : ((m : Int) + 1).toNat = m + 1 := by omega
            have s1 : IntKind.i64.wrap (m : Int) = (m : Int) := IntWalk.i64_in _ (by omega)
            have hot := ownsRow_keep HT.out fun j hj => kr.block j (own_ltk HT.out hj) (fun h => h)
            obtain ⟨g, rfl, hc0⟩ := time_at hot HN.out (i := m) (by omega)
            obtain ⟨g', hg', hc1⟩ := time_at hot HN.out (i := m + 1) hmN
            simp only [Option.some.injEq, Addr.mk.injEq, and_true] at hg'
            subst hg'
            obtain ⟨t0, ht0⟩ : ∃ t : Int, t = (M5.getD m (0, 0)).1 := ⟨_, rfl⟩
            obtain ⟨t1, ht1⟩ : ∃ t : Int, t = (M5.getD (m + 1) (0, 0)).1 := ⟨_, rfl⟩
            have hup := HUp.out m (m + 1) (by omega) (by rw [← HN.out]; exact hmN)
            rw [← ht0] at hc0 hup
            rw [← ht1] at hc1 hup
            have hle : ¬ t1 ≤ t0 := by omega
            have hd : decide (t1 ≤ t0) = false := decide_eq_false hle
            have KR := Lib.hid kr
            clear hot ht0 ht1 hup kr
            go_wp2_with fail
            go_quiet (fail)
            go_wp2
            go_roundw
            case rel => exact ⟨m + 1, by omega, by go_num, KR.out.trans (T := fun _ => False) (keeps_drewNk _ _ _) (fun _ _ h => h)⟩
            case measure => simp [intOf]; omega
          · have hmN' : ¬ (m : Int) + 1 < (N : Int) := by omega
            have hd : decide ((m : Int) + 1 < (N : Int)) = false := decide_eq_false hmN'
            have KR := Lib.hid kr
            clear kr
            go_wp2_with fail
            clear hd hmN' hm
            -- none was put ahead of the first one
            obtain ⟨w7, rfl⟩ : ∃ w7 : World, w7 = wr := ⟨_, rfl⟩
            have HB7 : Hid (Below w.heap.size w w7) := HB6.out.trans (KR.out.toBelow HB6.out.size (fun b hb => hb.elim))
            have HT7 := Lib.hid (ownsRow_keep HT.out fun j hj => KR.out.block j (own_ltk HT.out hj) (fun h => h))
            go_loopw [13, 14] (fun s13 s14 wr3 => ∃ m : Nat, m ≤ k + 1 ∧ s13 = .bool true ∧ s14 = .int .i64 (m : Int) ∧ Keeps (fun _ => False) w7 wr3) (fun _ s14 _ => k + 1 - (intOf s14).toNat)
            case atStart => exact ⟨0, by omega, rfl, rfl, Keeps.refl _ _⟩
            case round =>
              obtain ⟨m3, hm, rfl, rfl, kr⟩ := hrel
              by_cases hmk : m3 ≤ k
              · have hmk' : (m3 : Int) ≤ (k : Int) := by omega
                have hml : (m3 : Int) < (len : Int) := by omega
                have hm0 : (0 : Int) ≤ (m3 : Int) := by omega
                obtain ⟨_, hc1, _⟩ := HCell.out m3 (by omega)
                have hbl7 : b < w7.heap.size := Nat.lt_of_lt_of_le hbl HB7.out.size
                replace hc1 := (kr.cell (o := off + m3 * 3 + 1) hbl7 (fun h => h)).trans ((HB7.out.cell (p := ⟨b, off + m3 * 3 + 1, none⟩) hbl).trans hc1)
                have hot := ownsRow_keep HT7.out fun j hj => kr.block j (own_ltk HT7.out hj) (fun h => h)
                obtain ⟨g, rfl, hc0⟩ := time_at hot HN.out (i := 0) (by omega)
                obtain ⟨t0, ht0⟩ : ∃ t : Int, t = (M5.getD 0 (0, 0)).1 := ⟨_, rfl⟩
                obtain ⟨u, hu⟩ : ∃ u : Int, u = at' m3 := ⟨_, rfl⟩
                have hf := HR5.out.first m3 (by omega)
                rw [← ht0] at hc0 hf
                rw [← hu] at hc1 hf
                have hd : decide (t0 ≤ u) = true := decide_eq_true hf
                have hN0 : (0 : Int) < (N : Int) := by omega
                have KR3 := Lib.hid kr
                clear hot ht0 hu kr
                go_wp2_with fail
                go_quiet (fail)
                go_wp2
                go_roundw
                case rel => exact ⟨m3 + 1, by omega, rfl, by go_num, KR3.out.trans (T := fun _ => False) (keeps_drewNk _ _ _) (fun _ _ h => h)⟩
                case measure => simp [intOf]; omega
              · have hmk' : ¬ (m3 : Int) ≤ (k : Int) := by omega
                have hd : decide ((m3 : Int) ≤ (k : Int)) = false := decide_eq_false hmk'
                obtain ⟨w8, rfl⟩ : ∃ w8 : World, w8 = wr := ⟨_, rfl⟩
                have HK8 := Lib.hid ((HK6.out.keep KR.out (fun _ _ _ h => h)).keep kr (fun _ _ _ h => h))
                have HB8 : Hid (Below w.heap.size w w8) := HB7.out.trans (kr.toBelow HB7.out.size (fun b hb => hb.elim))
                have HT8 := Lib.hid (ownsRow_keep HT7.out fun j hj => kr.block j (own_ltk HT7.out hj) (fun h => h))
                clear kr
                go_wp2_with fail
                clear hd hmk' hm hmk
                refine (best_any w8 _ p n v5 M5 HK8.out (by rw [← HN.out]; omega) x).mono ?_
                rintro e w9 h9
                obtain ⟨bb, zz, ok, rfl, hbd, k9⟩ := bestD_of HUp.out h9
                have HK9 := Lib.hid (HK8.out.keep k9 (fun _ _ _ h => h))
                have HB9 : Hid (Below w.heap.size w w9) := HB8.out.trans (k9.toBelow HB8.out.size (fun b hb => hb.elim))
                have HT9 := Lib.hid (ownsRow_keep HT8.out fun j hj => k9.block j (own_ltk HT8.out hj) (fun h => h))
                have HBD := Lib.hid hbd
                clear h9 k9 hbd
                go_wp2_with fail
                go_loop [18, 19] (fun s18 s19 => ∃ (m : Nat) (th : Bool), m ≤ N ∧ s18 = .bool th ∧ s19 = .int .i64 (m : Int) ∧ There M5 x m th) (fun _ s19 => N - (intOf s19).toNat)
                case atStart => exact ⟨0, false, by omega, rfl, rfl, There.zero _ _⟩
                case round =>
                  obtain ⟨m4, th, hm4, rfl, rfl, hth⟩ := hrel
                  by_cases hmN : m4 < N
                  · have hmN' : (m4 : Int) < (N : Int) := by omega
                    have hm0 : (0 : Int) ≤ (m4 : Int) := by omega
                    obtain ⟨g, rfl, hc0⟩ := time_at HT9.out HN.out (i := m4) hmN
                    obtain ⟨t, ht⟩ : ∃ t : Int, t = (M5.getD m4 (0, 0)).1 := ⟨_, rfl⟩
                    have HTH := Lib.hid hth
                    have hlt5 : m4 < M5.length := by rw [← HN.out]; exact hmN
                    have HT' := Lib.hid ht
                    rw [← ht] at hc0
                    clear ht hth
                    by_cases htx : t ≤ x
                    · have hd : decide (t ≤ x) = true := decide_eq_true htx
                      cases ok with
                      | false =>
                        have h8 := HBD.out.1 rfl m4 hlt5
                        rw [← HT'.out] at h8
                        omega
                      | true =>
                        have htb : ¬ bb < t := by
                          have h8 := (HBD.out.2 rfl).2.2 m4 hlt5 (by rw [← HT'.out]; exact htx)
                          rw [← HT'.out] at h8
                          omega
                        have hd2 : decide (bb < t) = false := decide_eq_false htb
                        go_wp2
                        go_round
                        case rel => exact ⟨m4 + 1, true, by omega, rfl, by go_num, There.yes (by rw [← HT'.out]; exact htx)⟩
                        case measure => simp [intOf]; omega
                    · have hd : decide (t ≤ x) = false := decide_eq_false htx
                      go_wp2
                      go_round
                      case rel => exact ⟨m4 + 1, th, by omega, rfl, by go_num, HTH.out.no (by rw [← HT'.out]; exact htx)⟩
                      case measure => simp [intOf]; omega
                  · obtain rfl : m4 = N := by omega
                    have hd : decide (m4 < m4) = false := by simp
                    have hto : th = ok := by
                      cases ok with
                      | false =>
                        cases th with
                        | false => rfl
                        | true =>
                          obtain ⟨i, hi, hx⟩ := hth.1 rfl
                          have h8 := HBD.out.1 rfl i (by rw [← HN.out]; exact hi)
                          omega
                      | true =>
                        obtain ⟨h6, h7, _⟩ := HBD.out.2 rfl
                        obtain ⟨i, hi, he⟩ := getD_of_mem h7
                        exact hth.2 ⟨i, by rw [HN.out]; exact hi, by rw [he]; exact h6⟩
                    subst hto
                    clear hth
                    cases th with
                    | false =>
                      go_wp2_with fail
                      clear hd
                      go_loop [20, 21] (fun s20 s21 => s20 = .int .i64 0 ∧ s21 = .int .i64 0) (fun _ _ => 0)
                      case atStart => exact ⟨rfl, rfl⟩
                      case round =>
                        obtain ⟨rfl, rfl⟩ := hrel
                        go_wp2
                        go_roundw
                        case rel => exact ⟨k + 1, v5, M5, by omega, by omega, by go_num, HK9.out, HR5.out, HB9.out⟩
                        case measure => simp [intOf]; omega
                    | true =>
                      go_wp2_with fail
                      clear hd
                      go_loop [20, 21] (fun s20 s21 => ∃ (m : Nat) (lv : Int), m ≤ k + 1 ∧ s20 = .int .i64 lv ∧ s21 = .int .i64 (m : Int) ∧ LastP at' xs bb m lv) (fun _ s21 => k + 1 - (intOf s21).toNat)
                      case atStart => exact ⟨0, 0, by omega, rfl, rfl, LastP.zero _ _ _ _⟩
                      case round =>
                        obtain ⟨m5, lv, hm5, rfl, rfl, hlp⟩ := hrel
                        have HLP := Lib.hid hlp
                        clear hlp
                        by_cases hmk : m5 ≤ k
                        · have hmk' : (m5 : Int) ≤ (k : Int) := by omega
                          have hml : (m5 : Int) < (len : Int) := by omega
                          have hm0 : (0 : Int) ≤ (m5 : Int) := by omega
                          obtain ⟨_, hc1, hc2⟩ := HCell.out m5 (by omega)
                          replace hc1 := (HB9.out.cell (p := ⟨b, off + m5 * 3 + 1, none⟩) hbl).trans hc1
                          replace hc2 := (HB9.out.cell (p := ⟨b, off + m5 * 3 + 2, none⟩) hbl).trans hc2
                          obtain ⟨u, hu⟩ : ∃ u : Int, u = at' m5 := ⟨_, rfl⟩
                          obtain ⟨z5, hz5⟩ : ∃ z : Int, z = xs m5 := ⟨_, rfl⟩
                          rw [← hu] at hc1
                          rw [← hz5] at hc2
                          have HU := Lib.hid hu
                          have HZ5 := Lib.hid hz5
                          clear hu hz5
                          by_cases hub : u = bb
                          · subst hub
                            have hb1 : (u == u) = true := by simp
                            go_wp2
                            go_round
                            case rel => exact ⟨m5 + 1, z5, by omega, rfl, by go_num, by rw [HZ5.out]; exact HLP.out.yes HU.out.symm⟩
                            case measure => simp [intOf]; omega
                          · have hb1 : (u == bb) = false := by simpa using hub
                            have hb2 : decide (u = bb) = false := decide_eq_false hub
                            go_wp2
                            go_round
                            case rel => exact ⟨m5 + 1, lv, by omega, rfl, by go_num, HLP.out.no (by rw [← HU.out]; exact hub)⟩
                            case measure => simp [intOf]; omega
                        · have hmk' : ¬ (m5 : Int) ≤ (k : Int) := by omega
                          have hd : decide ((m5 : Int) ≤ (k : Int)) = false := decide_eq_false hmk'
                          obtain ⟨h6, h7, _⟩ := HBD.out.2 rfl
                          obtain ⟨j, g1, g2, g3, g4⟩ := HR5.out.last _ h7
                          have hlv : lv = zz := (HLP.out j (by omega) g2 (fun j' q1 q2 => g4 j' q1 (by omega))).trans g3
                          subst hlv
                          have hxb : ¬ x < bb := by omega
                          have hd2 : decide (x < bb) = false := decide_eq_false hxb
                          clear g2 g3 g4 h7
                          go_wp2
                          go_roundw
                          case rel => exact ⟨k + 1, v5, M5, by omega, by omega, by go_num, HK9.out, HR5.out, HB9.out⟩
                          case measure => simp [intOf]; omega
      · have h60' : ¬ (k : Int) < 60 := by omega
        have hlt' : (k : Int) < (len : Int) := by omega
        have hd : decide ((k : Int) < 60) = false := decide_eq_false h60'
        have HB := Lib.hid hb
        clear hR hb hK
        go_wp2
        go_ret
        exact ⟨rfl, HB.out⟩
    · have hlt' : ¬ (k : Int) < (len : Int) := by omega
      have hd : decide ((k : Int) < (len : Int)) = false := decide_eq_false hlt'
      have HB := Lib.hid hb
      clear hR hb hK
      go_wp2
      go_ret
      exact ⟨rfl, HB.out⟩

end Go.Proofs.Ytpighdioomjnmab
