/-
  Layer 14: the walk of KeepDrops. Written by an AI agent.
-/
import Derived.Test.YtpighdioomjnmabKpQ
import Derived.Test.YtpighdioomjnmabKsC
import Derived.Deep.DeepCutAuto
import Derived.Deep.CutBlock
import Derived.Deep.CutRange
import Derived.Deep.QuietTactic
import Derived.BigQuiet
import Derived.StillTailTactics
namespace Go.Proofs.Ytpighdioomjnmab
open Go.RowKit Go.Shelf
set_option linter.unusedVariables false
set_option linter.unusedSimpArgs false

theorem cell_ltk {w : World} {b o : Nat} {v : Value} (h : w.cell? ⟨b, o, none⟩ = some v) : b < w.heap.size := by
  rcases Nat.lt_or_ge b w.heap.size with h1 | h1
  · exact h1
  · have e : w.heap[b]? = none := Array.getElem?_eq_none h1
    unfold World.cell? at h
    simp [e] at h

/-- What is done: three cells each. -/
def OpsAt (w : World) (A : Option Addr) (len : Nat) (qs : Nat → Nat) (at' xs : Nat → Int) : Prop :=
  0 < len → ∃ b off, A = some ⟨b, off, none⟩ ∧ ∀ k, k < len → (qs k < 256 ∧ w.cell? ⟨b, off + k * 3, none⟩ = some (.int .u8 ((qs k : Nat) : Int))) ∧ w.cell? ⟨b, off + k * 3 + 1, none⟩ = some (.int .i64 (at' k)) ∧ w.cell? ⟨b, off + k * 3 + 2, none⟩ = some (.int .i64 (xs k))

theorem KeepIs.narrow {w : World} {S : Nat → Prop} {kp : Nat} {most : Int} {v : Value} {L : List (Int × Int)} (h : KeepIs w S kp most v L) : KeepIs w (fun k => S k ∧ k < w.heap.size) kp most v L :=
  { h with sp := ⟨h.sp, h.lt⟩, vb := fun g hg => ⟨⟨(h.vb g hg).1, own_ltk h.own hg⟩, (h.vb g hg).2⟩ }

/-- A time of a row of times. -/
theorem time_at {w : World} {A : Option Addr} {c n : Nat} {L : List (Int × Int)} (h : w.ownsRow 0 3 1 (.slice A n c) n (tv L)) (hn : n = L.length) {i : Nat} (hi : i < n) : ∃ g, A = some ⟨g, 0, none⟩ ∧ w.cell? ⟨g, i, none⟩ = some (.int .i64 (L.getD i (0, 0)).1) := by
  rcases h.2 with ⟨_, h0⟩ | ⟨g, cap, cur, e1, _⟩
  · omega
  · simp only [Value.slice.injEq] at e1
    obtain ⟨rfl, _, rfl⟩ := e1
    refine ⟨g, rfl, ?_⟩
    have h1 := h.cellAt i (by omega)
    rw [h1]
    unfold tv
    rw [List.getElem?_map, List.getElem?_eq_getElem (by omega), getD_lt (by omega)]
    rfl

set_option maxRecDepth 100000 in
set_option maxHeartbeats 4000000 in
theorem drops_walk (A : Option Addr) (len cap : Nat) (qs : Nat → Nat) (at' xs : Nat → Int) (x : Int) (w : World) (hlb : len ≤ 9223372036854775807) (hA : OpsAt w A len qs at' xs) :
    Calls Try.prog 5 #[.slice A len cap, .int .i64 x] w fun e w' => e = .returned (.bool true) ∧ Below w.heap.size w w' := by
  have HA := Lib.hid hA
  clear hA
  obtain ⟨B, hB⟩ : ∃ B : Nat, B = w.heap.size := ⟨_, rfl⟩
  have HBs := Lib.hid hB
  go_enter Try.func5, Try.ntmps5
  go_wp2_with fail
  refine (Str.shown_any _).mono ?_
  rintro e w1 ⟨rfl, hb1⟩
  have HB1 := Lib.hid hb1
  clear hb1
  go_wp2_with fail
  refine (knew_any _ _).mono ?_
  rintro e w2 ⟨rfl, hw2⟩
  obtain ⟨p, hp⟩ : ∃ p : Nat, p = w1.heap.size := ⟨_, rfl⟩
  have s1 := HB1.out.size
  have H2 := (keepIs_new w1 16).wider (T := fun k => B ≤ k) (fun k hk => by have : k = w1.heap.size := hk; omega)
  have K2 : Below w.heap.size w w2 := by rw [hw2]; exact HB1.out.alloc s1 _
  rw [← hw2] at H2
  rw [← hp] at H2 ⊢
  have HH2 := Lib.hid H2
  have HK2 := Lib.hid K2
  clear hw2 H2 K2 hp s1 HB1 hB
  go_upto_block 0 with fail
  go_cut [7] (fun s7 wx => ∃ (v : Value) (M : List (Int × Int)) (k : Nat), KeepIs wx (fun k => B ≤ k) p 16 v M ∧ Room at' k M ∧ k ≤ 16 ∧ (∀ j, j < 16 → j < len → j < k) ∧ Below w.heap.size w wx)
  case first =>
    go_wp2_with fail
    go_loopw [7] (fun s7 wr => ∃ (k : Nat) (v : Value) (M : List (Int × Int)), k ≤ 16 ∧ k ≤ len ∧ s7 = .int .i64 k ∧ KeepIs wr (fun k => B ≤ k) p 16 v M ∧ Room at' k M ∧ Below w.heap.size w wr) (fun s7 _ => 16 - (intOf s7).toNat)
    case atStart => exact ⟨0, _, [], by omega, by omega, rfl, HH2.out, Room.nil _, HK2.out⟩
    case round =>
      obtain ⟨k, v, M, hk, hkl, rfl, hK, hR, hb⟩ := hrel
      by_cases hlt : k < len
      · by_cases h16 : k < 16
        · have hlt' : (k : Int) < (len : Int) := by omega
          have h16' : (k : Int) < 16 := by omega
          have hk0 : (0 : Int) ≤ (k : Int) := by omega
          obtain ⟨b, off, rfl, hcell⟩ := HA.out (by omega)
          obtain ⟨_, hc1, hc2⟩ := hcell k hlt
          have hbl := cell_ltk hc1
          replace hc1 := (hb.cell (p := ⟨b, off + k * 3 + 1, none⟩) hbl).trans hc1
          replace hc2 := (hb.cell (p := ⟨b, off + k * 3 + 2, none⟩) hbl).trans hc2
          have hl := hR.1
          have PC := Lib.hid (put_any wr.drew _ p 16 v M (hK.keep (T := fun _ => False) (Keeps.refl _ _).drew (fun _ _ _ h => h)) (by omega) (at' k) (xs k))
          obtain ⟨y, hy⟩ : ∃ y : Int, y = at' k := ⟨_, rfl⟩
          obtain ⟨z, hz⟩ : ∃ z : Int, z = xs k := ⟨_, rfl⟩
          rw [← hy, ← hz] at PC
          rw [← hy] at hc1
          rw [← hz] at hc2
          have HY := Lib.hid hy
          have HZ := Lib.hid hz
          have HR := Lib.hid hR
          have HB := Lib.hid hb
          have HK := Lib.hid hK
          clear hcell hy hz hR hb hK hl
          go_wp2_with fail
          go_still_tail 11, (by kernel_rfl)
          change wpList _ _ _ _ _ wr.drew
          go_wp2_with fail
          refine PC.out.mono ?_
          rintro e w5 ⟨v5, M5, rfl, hd5, hK5, hk5⟩
          rw [HY.out] at hd5
          have hR5 := HR.out.put h16 hd5
          have hb5 : Below w.heap.size w w5 := (HB.out.drew).trans (hk5.toBelow HB.out.size (fun k hk => by have := HBs.out; have : B ≤ k := hk; omega))
          have hs : B ≤ wr.heap.size := by have := HBs.out; have := HB.out.size; omega
          have hK5' := hK5.wider (T := fun k => B ≤ k) (fun k hk => by
            rcases hk with h | h
            · exact h
            · have : wr.heap.size ≤ k := h.1
              omega)
          have HR5 := Lib.hid hR5
          have HB5 := Lib.hid hb5
          have HK5 := Lib.hid hK5'
          clear hd5 hK5 hk5 hR5 hb5 hK5' hs
          go_wp2
          go_roundw
          case rel => exact ⟨k + 1, v5, M5, by omega, by omega, by go_num, HK5.out, HR5.out, HB5.out⟩
          case measure => simp [intOf]; omega
        · have h16' : ¬ (k : Int) < 16 := by omega
          have hlt' : (k : Int) < (len : Int) := by omega
          have hd : decide ((k : Int) < 16) = false := decide_eq_false h16'
          have hfin : (∀ j, j < 16 → j < len → j < k) := fun j _ _ => by omega
          have HF := Lib.hid hfin
          have HR := Lib.hid hR
          have HB := Lib.hid hb
          have HK := Lib.hid hK
          clear hfin hR hb hK
          go_wp2_with fail
          go_meet
          exact ⟨v, M, k, HK.out, HR.out, hk, HF.out, HB.out⟩
      · have hlt' : ¬ (k : Int) < (len : Int) := by omega
        have hd : decide ((k : Int) < (len : Int)) = false := decide_eq_false hlt'
        have hfin : (∀ j, j < 16 → j < len → j < k) := fun j _ _ => by omega
        have HF := Lib.hid hfin
        have HR := Lib.hid hR
        have HB := Lib.hid hb
        have HK := Lib.hid hK
        clear hfin hR hb hK
        go_wp2_with fail
        go_meet
        exact ⟨v, M, k, HK.out, HR.out, hk, HF.out, HB.out⟩
  case rest =>
    obtain ⟨v, M, k16, hK, hR, hk16, hall, hb⟩ := hcut
    obtain ⟨wA, rfl⟩ : ∃ wA : World, wA = wc := ⟨_, rfl⟩
    have hl := hR.1
    have hl16 : M.length ≤ 16 := by omega
    have hKn := hK.narrow
    have hs : B ≤ wA.heap.size := by have := HBs.out; have := hb.size; omega
    have TC := Lib.hid (times_any wA _ p 16 v M hKn (by omega))
    have HK := Lib.hid hKn
    have HR := Lib.hid hR
    have HB := Lib.hid hb
    have HALL := Lib.hid hall
    clear hK hR hb hKn hall hl
    go_wp2_with fail
    refine TC.out.mono ?_
    rintro e w3 ⟨vb, rfl, hob, hbb, k3⟩
    obtain ⟨Ab, cb, rfl⟩ := own_formk hob
    have hK3 := HK.out.keep k3 (fun _ _ _ h => h)
    have hB3 : Below w.heap.size w w3 := HB.out.trans (k3.toBelow HB.out.size (fun b hb => hb.elim))
    have DC := Lib.hid (drop_any w3 _ p 16 v M hK3 (by omega) x)
    have HO := Lib.hid hob
    have HOb := Lib.hid hbb
    have HB3 := Lib.hid hB3
    clear hob hbb k3 hK3 hB3 TC
    go_wp2_with fail
    refine DC.out.mono ?_
    rintro e w4 ⟨r, v4, rfl, hr, h1, h2, hK4, k4⟩
    have hob4 : w4.ownsRow 0 3 1 (.slice Ab M.length cb) M.length (tv M) := ownsRow_keep HO.out fun k hk => k4.block k (own_ltk HO.out hk) (fun hS => by
      have h5 := HOb.out k hk
      have h6 : k < wA.heap.size := hS.2
      omega)
    have hB4 : Below w.heap.size w w4 := HB3.out.trans (k4.toBelow HB3.out.size (fun k hk => by
      have h6 : B ≤ k := hk.1
      have := HBs.out
      omega))
    have hrl : (M.take r).length = r := by rw [List.length_take]; omega
    have TC2 := Lib.hid (times_any w4 _ p 16 v4 (M.take r) hK4 (by omega))
    have HO4 := Lib.hid hob4
    have HB4 := Lib.hid hB4
    have HK4 := Lib.hid hK4
    have HRL := Lib.hid hrl
    have H1 := Lib.hid h1
    have H2 := Lib.hid h2
    clear hob4 hB4 hK4 hrl h1 h2 k4 HO HOb DC
    go_wp2_with fail
    refine TC2.out.mono ?_
    rintro e w5 ⟨va, rfl, hoa, hba, k5⟩
    obtain ⟨Aa, ca, rfl⟩ := own_formk hoa
    have hK5 := HK4.out.keep k5 (fun _ _ _ h => h)
    have hob5 := ownsRow_keep HO4.out fun k hk => k5.block k (own_ltk HO4.out hk) (fun h => h)
    have hB5 : Below w.heap.size w w5 := HB4.out.trans (k5.toBelow HB4.out.size (fun b hb => hb.elim))
    rw [HRL.out] at hoa ⊢
    obtain ⟨N, hN⟩ : ∃ N : Nat, N = M.length := ⟨_, rfl⟩
    rw [← hN] at hr hl16 hob5 ⊢
    have HN := Lib.hid hN
    have HK5 := Lib.hid hK5
    have HO5 := Lib.hid hob5
    have HOA := Lib.hid hoa
    have HB5 := Lib.hid hB5
    clear hoa hba k5 hK5 hob5 hB5 TC2 hN
    go_upto_block 2 with fail
    go_cut [10] (fun s10 wx => Keeps (fun _ => False) w5 wx)
    case first =>
      go_wp2_with fail
      go_loopw [10] (fun s10 wr => ∃ k : Nat, k ≤ 16 ∧ k ≤ len ∧ s10 = .int .i64 k ∧ Keeps (fun _ => False) w5 wr) (fun s10 _ => 16 - (intOf s10).toNat)
      case atStart => exact ⟨0, by omega, by omega, rfl, Keeps.refl _ _⟩
      case round =>
        obtain ⟨k, hk, hkl, rfl, kr⟩ := hrel
        by_cases hlt : k < len
        · by_cases h16 : k < 16
          · have hlt' : (k : Int) < (len : Int) := by omega
            have h16' : (k : Int) < 16 := by omega
            have hk0 : (0 : Int) ≤ (k : Int) := by omega
            obtain ⟨b, off, rfl, hcell⟩ := HA.out (by omega)
            obtain ⟨_, hc1, _⟩ := hcell k hlt
            have hbl := cell_ltk hc1
            have hbl5 : b < w5.heap.size := Nat.lt_of_lt_of_le hbl HB5.out.size
            replace hc1 := (kr.cell (o := off + k * 3 + 1) hbl5 (fun h => h)).trans ((HB5.out.cell (p := ⟨b, off + k * 3 + 1, none⟩) hbl).trans hc1)
            have BC := Lib.hid (best_any wr _ p 16 v4 (M.take r) (HK5.out.keep kr (fun _ _ _ h => h)) (by rw [HRL.out]; omega) (at' k))
            have hin := HR.out.2 k (HALL.out k h16 hlt)
            obtain ⟨y, hy⟩ : ∃ y : Int, y = at' k := ⟨_, rfl⟩
            rw [← hy] at BC hc1 hin
            have HIN := Lib.hid hin
            have KR := Lib.hid kr
            clear hcell hy kr hin
            go_wp2_with fail
            refine BC.out.mono ?_
            rintro e w6 ⟨k6, hc⟩
            replace hc1 := (k6.cell (o := off + k * 3 + 1) (Nat.lt_of_lt_of_le hbl5 KR.out.size) (fun h => h)).trans hc1
            have K6 := Lib.hid (KR.out.trans k6 (fun _ _ h => h))
            by_cases hyx : y ≤ x
            · have hyd : decide (y ≤ x) = true := decide_eq_true hyx
              obtain ⟨i, hir, hi⟩ := best_of_take HK.out.up (by rw [← HN.out]; exact hr) H1.out H2.out HIN.out hyx
              have hit := take_getD (M := M) hir
              rw [← hit] at hi
              rcases hc with ⟨_, h0⟩ | ⟨s, hs, rfl, g1, g2⟩
              · have h9 := h0 i (by rw [HRL.out]; exact hir)
                omega
              · have hsi : s = i := by
                  rw [HRL.out] at hs
                  rcases Nat.lt_trichotomy s i with h | h | h
                  · have h9 := g2 i h (by rw [HRL.out]; exact hir)
                    omega
                  · exact h
                  · have h9 := HK5.out.up i s h (by rw [HRL.out]; exact hs)
                    omega
                subst hsi
                obtain ⟨z, hz⟩ : ∃ z : Int, z = ((M.take r).getD s (0, 0)).2 := ⟨_, rfl⟩
                rw [hi, ← hz]
                clear hi hit hz g1 g2 k6 hs
                go_wp2
                go_roundw
                case rel => exact ⟨k + 1, by omega, by omega, by go_num, K6.out⟩
                case measure => simp [intOf]; omega
            · have hyd : decide (y ≤ x) = false := decide_eq_false hyx
              rcases hc with ⟨rfl, h0⟩ | ⟨s, hs, rfl, g1, g2⟩
              · clear h0 k6
                go_wp2
                go_roundw
                case rel => exact ⟨k + 1, by omega, by omega, by go_num, K6.out⟩
                case measure => simp [intOf]; omega
              · obtain ⟨z, hz⟩ : ∃ z : Int, z = ((M.take r).getD s (0, 0)).2 := ⟨_, rfl⟩
                obtain ⟨t, ht⟩ : ∃ t : Int, t = ((M.take r).getD s (0, 0)).1 := ⟨_, rfl⟩
                rw [← hz, ← ht]
                clear hz ht g1 g2 k6 hs
                go_wp2
                go_roundw
                case rel => exact ⟨k + 1, by omega, by omega, by go_num, K6.out⟩
                case measure => simp [intOf]; omega
          · have h16' : ¬ (k : Int) < 16 := by omega
            have hlt' : (k : Int) < (len : Int) := by omega
            have hd : decide ((k : Int) < 16) = false := decide_eq_false h16'
            have KR := Lib.hid kr
            clear kr
            go_wp2_with fail
            go_meet
            exact KR.out
        · have hlt' : ¬ (k : Int) < (len : Int) := by omega
          have hd : decide ((k : Int) < (len : Int)) = false := decide_eq_false hlt'
          have KR := Lib.hid kr
          clear kr
          go_wp2_with fail
          go_meet
          exact KR.out
    case rest =>
      obtain ⟨wB, rfl⟩ : ∃ wB : World, wB = wc := ⟨_, rfl⟩
      have k6 : Keeps (fun _ => False) w5 wB := hcut
      have HO6 := Lib.hid (ownsRow_keep HO5.out fun k hk => k6.block k (own_ltk HO5.out hk) (fun h => h))
      have HOA6 := Lib.hid (ownsRow_keep HOA.out fun k hk => k6.block k (own_ltk HOA.out hk) (fun h => h))
      have HB6 : Hid (Below w.heap.size w wB) := HB5.out.trans (k6.toBelow HB5.out.size (fun b hb => hb.elim))
      clear hcut k6 HO5 HOA HB5 HK5
      go_wp2_with fail
      go_loopw [14, 15] (fun s14 s15 wr => ∃ (k n : Nat), k ≤ N ∧ n = min k r ∧ s14 = .int .i64 n ∧ s15 = .int .i64 k ∧ Keeps (fun _ => False) wB wr) (fun _ s15 _ => N - (intOf s15).toNat)
      case atStart => exact ⟨0, 0, by omega, by omega, rfl, rfl, Keeps.refl _ _⟩
      case round =>
        obtain ⟨k, n, hk, hn, rfl, rfl, kr⟩ := hrel
        by_cases hkN : k < N
        · have hkN' : (k : Int) < (N : Int) := by omega
          have hk0 : (0 : Int) ≤ (k : Int) := by omega
          have hob := ownsRow_keep HO6.out fun j hj => kr.block j (own_ltk HO6.out hj) (fun h => h)
          obtain ⟨g, rfl, hc⟩ := time_at hob HN.out hkN
          obtain ⟨y, hy⟩ : ∃ y : Int, y = (M.getD k (0, 0)).1 := ⟨_, rfl⟩
          rw [← hy] at hc
          by_cases hkr : k < r
          · obtain rfl : n = k := by omega
            have hyx : y ≤ x := by rw [hy]; exact H1.out n hkr
            have hyd : decide (y ≤ x) = true := decide_eq_true hyx
            have hoa := ownsRow_keep HOA6.out fun j hj => kr.block j (own_ltk HOA6.out hj) (fun h => h)
            obtain ⟨ga, rfl, hca⟩ := time_at hoa HRL.out.symm hkr
            rw [take_getD hkr, ← hy] at hca
            have hkr' : (n : Int) < (r : Int) := by omega
            have hnr : ¬ ((r : Int) ≤ (n : Int)) := by omega
            have hnd : decide ((r : Int) ≤ (n : Int)) = false := decide_eq_false hnr
            have KR := Lib.hid kr
            clear hob hoa hy kr hn
            go_wp2_with fail
            go_quiet (fail)
            go_wp2
            go_roundw
            case rel => exact ⟨n + 1, n + 1, by omega, by omega, by go_num, by go_num, KR.out.trans (T := fun _ => False) ⟨rfl, rfl, rfl, Nat.le_refl _, fun _ _ _ => rfl⟩ (fun _ _ h => h)⟩
            case measure => simp [intOf]; omega
          · obtain rfl : n = r := by omega
            have hyx : ¬ y ≤ x := by
              have := H2.out k (by omega) (by rw [← HN.out]; exact hkN)
              omega
            have hyd : decide (y ≤ x) = false := decide_eq_false hyx
            have KR := Lib.hid kr
            clear hob hy kr hn
            go_wp2
            go_roundw
            case rel => exact ⟨k + 1, n, by omega, by omega, rfl, by go_num, KR.out⟩
            case measure => simp [intOf]; omega
        · obtain rfl : k = N := by omega
          have hd : decide (k < k) = false := by simp
          obtain rfl : n = r := by omega
          have KR := Lib.hid kr
          clear kr hn
          go_wp2
          go_ret
          exact ⟨rfl, HB6.out.trans (KR.out.toBelow HB6.out.size (fun b hb => hb.elim))⟩

end Go.Proofs.Ytpighdioomjnmab
