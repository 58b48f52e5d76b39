/-
  Layer 14: the walk of KeepOrder. Written by an AI agent.
-/
import Derived.Test.YtpighdioomjnmabKpV
import Derived.Test.YtpighdioomjnmabKpU
namespace Go.Proofs.Ytpighdioomjnmab
open Go.RowKit Go.Shelf
set_option linter.unusedVariables false
set_option linter.unusedSimpArgs false

theorem info29 : (Try.prog.info? 29).map (fun i => (i.zero, i.size, i.bytes)) = some (some (.agg #[.int .u8 0, .int .i64 0, .int .i64 0]), 3, 24) := by kernel_rfl

theorem best_in {L : List (Int × Int)} {p : Int × Int} {b z : Int} {ok : Bool} (hup : Up L) (h : BestD L p.1 b z ok) (hp : p ∈ L) : ok = true ∧ b = p.1 ∧ z = p.2 := by
  obtain ⟨i, hi, rfl⟩ := getD_of_mem hp
  cases ok with
  | false =>
    have := h.1 rfl i hi
    omega
  | true =>
    obtain ⟨h1, h2, h3⟩ := h.2 rfl
    have h4 := h3 i hi (Int.le_refl _)
    obtain ⟨j, hj, e⟩ := getD_of_mem h2
    have hij : j = i := by
      have e1 : (L.getD j (0, 0)).1 = b := by rw [e]
      rcases Nat.lt_trichotomy j i with h5 | h5 | h5
      · have := hup j i h5 hi
        omega
      · exact h5
      · have := hup i j h5 hj
        omega
    subst hij
    rw [e]
    exact ⟨rfl, rfl, rfl⟩

/-- An element of a row of things to do. -/
theorem op_at {w : World} {A : Option Addr} {c n : Nat} {O : List (Nat × Int × Int)} (h : w.ownsRow 0 29 3 (.slice A n c) n (flat3 O)) (hn : n = O.length) {i : Nat} (hi : i < n) : ∃ g, A = some ⟨g, 0, none⟩ ∧ w.cell? ⟨g, i * 3, none⟩ = some (.int .u8 (((O.getD i (0, 0, 0)).1 : Nat) : Int)) ∧ w.cell? ⟨g, i * 3 + 1, none⟩ = some (.int .i64 (O.getD i (0, 0, 0)).2.1) ∧ w.cell? ⟨g, i * 3 + 2, none⟩ = some (.int .i64 (O.getD i (0, 0, 0)).2.2) := by
  rcases h.2 with ⟨_, h0⟩ | ⟨g, cap, cur, e1, _⟩
  · omega
  · simp only [Value.slice.injEq] at e1
    obtain ⟨rfl, _, rfl⟩ := e1
    obtain ⟨f0, f1, f2⟩ := flat3_at O i (by omega)
    exact ⟨g, rfl, (h.cellAt (i * 3) (by omega)).trans f0, (h.cellAt (i * 3 + 1) (by omega)).trans f1, (h.cellAt (i * 3 + 2) (by omega)).trans f2⟩

theorem news3 {w : World} {s : Nat} (q a x : Value) (t : TypeId) (hs : w.heap.size = s) : ∀ j u, ([q, a, x] : List Value)[j]? = some u → (w.alloc (.cells #[q, a, x] t)).cell? ((⟨s, 0, none⟩ : Addr).add j) = some u := by
  intro j u h
  subst hs
  exact news_at72 (T := t) (heap_alloc_new w _) j u h

/-- The thing that is put j-th. -/
def pr (O : List (Nat × Int × Int)) (m : Nat) : Int × Int := (O.getD m (0, 0, 0)).2

set_option maxRecDepth 100000 in
set_option maxHeartbeats 8000000 in
theorem order_walk (A : Option Addr) (len cap : Nat) (qs : Nat → Nat) (at' xs : Nat → Int) (f : Nat) (w : World) (hf : f < 256) (hlb : len ≤ 9223372036854775807) (hA : OpsAt w A len qs at' xs) :
    Calls Try.prog 6 #[.slice A len cap, .int .u8 (f : Int)] w fun e w' => e = .returned (.bool true) ∧ Below w.heap.size w w' := by
  have HA := Lib.hid hA
  clear hA
  obtain ⟨B, hB⟩ : ∃ B : Nat, B = w.heap.size := ⟨_, rfl⟩
  have HBs := Lib.hid hB
  obtain ⟨i0, hi, hz0, hz1, hz2⟩ := info_parts info29
  go_enter Try.func6, Try.ntmps6
  go_wp2_with fail
  refine (Str.shown_any _).mono ?_
  rintro e w1 ⟨rfl, hb1⟩
  have HB1 := Lib.hid hb1
  clear hb1
  go_wp2_with fail
  refine (knew_any _ _).mono ?_
  rintro e w2 ⟨rfl, hw2⟩
  have HW2 := Lib.hid hw2
  clear hw2
  go_wp2_with fail
  refine (knew_any _ _).mono ?_
  rintro e w3 ⟨rfl, hw3⟩
  have hw2 := HW2.out
  clear HW2
  obtain ⟨pa, hpa⟩ : ∃ p : Nat, p = w1.heap.size := ⟨_, rfl⟩
  obtain ⟨pb, hpb⟩ : ∃ p : Nat, p = w2.heap.size := ⟨_, rfl⟩
  have s1 := HB1.out.size
  have s2 : w2.heap.size = w1.heap.size + 1 := by rw [hw2]; simp
  have s3 : w3.heap.size = w2.heap.size + 1 := by rw [hw3]; simp
  have k2 : Keeps (fun _ => False) w1 w2 := by rw [hw2]; exact (Keeps.refl _ _).alloc _
  have k3 : Keeps (fun _ => False) w2 w3 := by rw [hw3]; exact (Keeps.refl _ _).alloc _
  have H2 := keepIs_new w1 16
  have H3 := keepIs_new w2 16
  rw [← hw2, ← hpa] at H2
  rw [← hw3, ← hpb] at H3
  have HT3 : Hid (Two w3.heap.size w3 (fun k => k = pa) (fun k => k = pb) pa pb [] []) := ⟨⟨_, H2.keep k3 (fun _ _ _ h => h)⟩, ⟨_, H3⟩, fun k (h : k = pa) => ⟨.inl h, by omega⟩, fun k (h : k = pb) => ⟨.inl h, by omega⟩, fun k (h : k = pa) (h' : k = pb) => by omega⟩
  have K3 : Hid (Below w.heap.size w w3) := (HB1.out.trans (k2.toBelow s1 (fun b hb => hb.elim))).trans (k3.toBelow (by omega) (fun b hb => hb.elim))
  obtain ⟨C, hC⟩ : ∃ C : Nat, C = w3.heap.size := ⟨_, rfl⟩
  have hpaC : pa < C := by omega
  have hpbC : pb < C := by omega
  have hBC : B ≤ C := by omega
  have hBa : B ≤ pa := by omega
  have hBb : B ≤ pb := by omega
  rw [← hpa, ← hpb]
  rw [← hC] at HT3
  have HC := Lib.hid hC
  clear hw2 hw3 H2 H3 k2 k3 hpa hpb s1 s2 s3 HB1 hB hC
  go_upto_block 0 with fail
  go_cut [8, 36] (fun s8 s36 wx => ∃ (AO : Option Addr) (cO : Nat) (O : List (Nat × Int × Int)), s8 = .slice AO O.length cO ∧ O.length ≤ 16 ∧ Dist O ∧ wx.ownsRow 0 29 3 (.slice AO O.length cO) O.length (flat3 O) ∧ (∀ g, (Value.slice AO O.length cO).ownBlock = some g → C ≤ g) ∧ Keeps (fun _ => False) w3 wx)
  case first =>
    go_wp2_with fail
    obtain ⟨w4, hw4⟩ : ∃ w4 : World, w4 = w3.alloc (.cells #[] 29) := ⟨_, rfl⟩
    have ho4 := World.ownsRow_lit (base := 0) (e := 29) (size := 3) w3 #[] 0 (Nat.zero_le _) (by unfold maxLen; omega) rfl
    rw [← hw4] at ho4
    rw [← hw4]
    have k4 : Keeps (fun _ => False) w3 w4 := by rw [hw4]; exact (Keeps.refl _ _).alloc _
    obtain ⟨g0, hg0⟩ : ∃ g : Nat, g = w3.heap.size := ⟨_, rfl⟩
    rw [← hg0] at ho4 ⊢
    have hg0C : C ≤ g0 := by have := HC.out; omega
    have HO4 := Lib.hid ho4
    have K4 := Lib.hid k4
    clear hw4 ho4 k4 hg0
    go_loopw [8, 9] (fun s8 s9 wr => ∃ (k : Nat) (AO : Option Addr) (cO : Nat) (O : List (Nat × Int × Int)), k ≤ len ∧ s9 = .int .i64 k ∧ s8 = .slice AO O.length cO ∧ O.length ≤ 16 ∧ Dist O ∧ wr.ownsRow 0 29 3 (.slice AO O.length cO) O.length (flat3 O) ∧ (∀ g, (Value.slice AO O.length cO).ownBlock = some g → C ≤ g) ∧ Keeps (fun _ => False) w3 wr) (fun _ s9 _ => len - (intOf s9).toNat)
    case atStart => exact ⟨0, some ⟨g0, 0, none⟩, 0, [], by omega, rfl, rfl, by simp, fun m m' h => absurd h (Nat.not_lt_zero _), HO4.out, fun g hg => by simp [Value.ownBlock] at hg; omega, K4.out⟩
    case round =>
      obtain ⟨k, AO, cO, O, hk, rfl, rfl, hl16, hD, hO, hgC, kr⟩ := hrel
      obtain ⟨n, hn⟩ : ∃ n : Nat, n = O.length := ⟨_, rfl⟩
      rw [← hn] at hl16 hO hgC ⊢
      have HN := Lib.hid hn
      have HD := Lib.hid hD
      have HGC := Lib.hid hgC
      clear hn hD hgC
      by_cases hlt : k < len
      · have hlt' : (k : Int) < (len : Int) := by omega
        by_cases h16 : n < 16
        · have h16' : (n : Int) < 16 := by omega
          have hk0 : (0 : Int) ≤ (k : Int) := by omega
          obtain ⟨b, off, rfl, hcell⟩ := HA.out (by omega)
          obtain ⟨⟨hq, hc0⟩, hc1, hc2⟩ := hcell k hlt
          have hbl := cell_ltk hc1
          have hbl3 : b < w3.heap.size := Nat.lt_of_lt_of_le hbl K3.out.size
          replace hc0 := (kr.cell (o := off + k * 3) hbl3 (fun h => h)).trans ((K3.out.cell (p := ⟨b, off + k * 3, none⟩) hbl).trans hc0)
          replace hc1 := (kr.cell (o := off + k * 3 + 1) hbl3 (fun h => h)).trans ((K3.out.cell (p := ⟨b, off + k * 3 + 1, none⟩) hbl).trans hc1)
          replace hc2 := (kr.cell (o := off + k * 3 + 2) hbl3 (fun h => h)).trans ((K3.out.cell (p := ⟨b, off + k * 3 + 2, none⟩) hbl).trans hc2)
          obtain ⟨q, hqe⟩ : ∃ q : Nat, q = qs k := ⟨_, rfl⟩
          obtain ⟨y, hy⟩ : ∃ y : Int, y = at' k := ⟨_, rfl⟩
          obtain ⟨z, hz⟩ : ∃ z : Int, z = xs k := ⟨_, rfl⟩
          rw [← hqe] at hc0
          rw [← hy] at hc1
          rw [← hz] at hc2
          have hbr : b < wr.heap.size := Nat.lt_of_lt_of_le hbl3 kr.size
          have HO := Lib.hid hO
          have KR := Lib.hid kr
          have C0 := Lib.hid hc0
          have C1 := Lib.hid hc1
          have C2 := Lib.hid hc2
          clear hcell hqe hy hz hO kr hq hc0 hc1 hc2
          go_wp2_with fail
          obtain ⟨wo, rfl⟩ : ∃ wo : World, wo = wr := ⟨_, rfl⟩
          go_loopw [10, 11] (fun s10 s11 wr2 => ∃ (m : Nat) (th : Bool), m ≤ n ∧ s10 = .bool th ∧ s11 = .int .i64 (m : Int) ∧ Has O y m th ∧ Keeps (fun _ => False) wo wr2) (fun _ s11 _ => n - (intOf s11).toNat)
          case atStart => exact ⟨0, false, by omega, rfl, rfl, Has.zero _ _, Keeps.refl _ _⟩
          case round =>
            obtain ⟨m, th, hm, rfl, rfl, hth, kr⟩ := hrel
            by_cases hmn : m < n
            · have hmn' : (m : Int) < (n : Int) := by omega
              have hm0 : (0 : Int) ≤ (m : Int) := by omega
              have KR2 := Lib.hid kr
              have HTH := Lib.hid hth
              cases th with
              | true =>
                clear kr hth
                go_wp2_with fail
                go_quiet (fail)
                go_wp2
                go_roundw
                case rel => exact ⟨m + 1, true, by omega, rfl, by go_num, HTH.out.more, KR2.out.trans (T := fun _ => False) (keeps_drewNk _ _ _) (fun _ _ h => h)⟩
                case measure => simp [intOf]; omega
              | false =>
                have hot := ownsRow_keep HO.out fun j hj => kr.block j (own_ltk HO.out hj) (fun h => h)
                obtain ⟨g, rfl, _, d1, _⟩ := op_at hot HN.out hmn
                obtain ⟨t, ht⟩ : ∃ t : Int, t = (O.getD m (0, 0, 0)).2.1 := ⟨_, rfl⟩
                rw [← ht] at d1
                have hc1 := (kr.cell (o := off + k * 3 + 1) hbr (fun h => h)).trans C1.out
                have HTe := Lib.hid ht
                clear hot ht kr hth
                by_cases hty : t = y
                · subst hty
                  go_wp2_with fail
                  go_quiet (fail)
                  go_wp2
                  go_roundw
                  case rel => exact ⟨m + 1, true, by omega, (by simp), by go_num, Has.yes HTe.out.symm, KR2.out.trans (T := fun _ => False) (keeps_drewNk _ _ _) (fun _ _ h => h)⟩
                  case measure => simp [intOf]; omega
                · have hd1 : decide (t = y) = false := decide_eq_false hty
                  have hd2 : (t == y) = false := by simpa using hty
                  go_wp2_with fail
                  go_quiet (fail)
                  go_wp2
                  go_roundw
                  case rel => exact ⟨m + 1, false, by omega, (by simp [hd1, hd2]), by go_num, HTH.out.no (by rw [← HTe.out]; exact hty), KR2.out.trans (T := fun _ => False) (keeps_drewNk _ _ _) (fun _ _ h => h)⟩
                  case measure => simp [intOf]; omega
            · obtain rfl : m = n := by omega
              have hd : decide (m < m) = false := by simp
              have hok := ownsRow_keep HO.out fun j hj => kr.block j (own_ltk HO.out hj) (fun h => h)
              have hc0 := (kr.cell (o := off + k * 3) hbr (fun h => h)).trans C0.out
              have hc1 := (kr.cell (o := off + k * 3 + 1) hbr (fun h => h)).trans C1.out
              have hc2 := (kr.cell (o := off + k * 3 + 2) hbr (fun h => h)).trans C2.out
              have hC3 : C ≤ wr.heap.size := by have := HC.out; have := (KR.out.trans kr (fun _ _ h => h)).size; omega
              have HO2 := Lib.hid hok
              have KR2 := Lib.hid (KR.out.trans kr (fun _ _ h => h))
              have HTH := Lib.hid hth
              clear kr hok hth
              cases th with
              | true =>
                clear hc0 hc1 hc2
                go_wp2
                go_roundw
                case rel => exact ⟨k + 1, AO, cO, O, by omega, by go_num, by rw [HN.out], by rw [← HN.out]; exact hl16, HD.out, by rw [← HN.out]; exact HO2.out, by rw [← HN.out]; exact HGC.out, KR2.out⟩
                case measure => simp [intOf]; omega
              | false =>
                go_wp2_with (at_builtin; refine wpList_append_atk rfl (.tmp 70) (.tmp 75) 22 rfl 0 29 i0 _ 3 24 Try.underlying22 hi hz0 hz1 hz2 (by rfl) (by omega) _ m (flat3 O) (by rfl) (HO2.out.alloc _) ⟨wr.heap.size, 0, none⟩ 1 1 [.int .u8 (q : Int), .int .i64 y, .int .i64 z] (by rfl) (by rfl) (news3 _ _ _ _ rfl) (by simp [Value.oneCell']) (by omega) (by omega) (Nat.zero_le _) ?_
                             intro v5 w5 h5 g5 b5
                             have H5 := Lib.hid h5
                             have G5 := Lib.hid g5
                             have B5 := Lib.hid b5
                             clear h5 g5 b5)
                have hform := own_formk H5.out
                obtain ⟨A5, c5, rfl⟩ := hform
                go_roundw
                case rel =>
                  have el : (O ++ [(q, y, z)]).length = m + 1 := by rw [List.length_append, ← HN.out]; rfl
                  have ef : flat3 (O ++ [(q, y, z)]) = flat3 O ++ [.int .u8 (q : Int), .int .i64 y, .int .i64 z] := by rw [flat3_append]; rfl
                  refine ⟨k + 1, A5, c5, O ++ [(q, y, z)], by omega, by go_num, by rw [el], by rw [el]; omega, HD.out.snoc (fun i hi e => ?_), by rw [el, ef]; exact H5.out, fun g hg => ?_, (KR2.out.alloc _).grown G5.out (fun j hj hlt => ?_)⟩
                  · have := HTH.out.2 ⟨i, by rw [HN.out]; exact hi, e⟩
                    cases this
                  · rw [el] at hg
                    rcases B5.out with e | e
                    · exact HGC.out g (e.symm.trans hg)
                    · rw [e] at hg
                      have := Option.some.inj hg
                      simp at this
                      omega
                  · have := HGC.out j hj
                    have := HC.out
                    omega
                case measure => simp [intOf]; omega
        · have h16' : ¬ (n : Int) < 16 := by omega
          have hd : decide ((n : Int) < 16) = false := decide_eq_false h16'
          have HO := Lib.hid hO
          have KR := Lib.hid kr
          clear hO kr
          go_wp2_with fail
          go_meet
          exact ⟨AO, cO, O, by rw [HN.out], by rw [← HN.out]; exact hl16, HD.out, by rw [← HN.out]; exact HO.out, by rw [← HN.out]; exact HGC.out, KR.out⟩
      · have hlt' : ¬ (k : Int) < (len : Int) := by omega
        have hd : decide ((k : Int) < (len : Int)) = false := decide_eq_false hlt'
        have HO := Lib.hid hO
        have KR := Lib.hid kr
        clear hO kr
        go_wp2_with fail
        go_meet
        exact ⟨AO, cO, O, by rw [HN.out], by rw [← HN.out]; exact hl16, HD.out, by rw [← HN.out]; exact HO.out, by rw [← HN.out]; exact HGC.out, KR.out⟩
  case rest =>
    obtain ⟨AO, cO, O, rfl, hl16, hD, hO, hgC, kr⟩ := hcut
    obtain ⟨w4, rfl⟩ : ∃ w4 : World, w4 = wc := ⟨_, rfl⟩
    obtain ⟨D, hD4⟩ : ∃ D : Nat, D = w4.heap.size := ⟨_, rfl⟩
    have hCD : C ≤ D := by have := HC.out; have := kr.size; omega
    have hT4 := HT3.out.keep kr
    have HT4 : Hid (Two D w4 (fun k => k = pa) (fun k => k = pb) pa pb [] []) := ⟨hT4.a, hT4.b, fun k (h : k = pa) => ⟨.inl h, by omega⟩, fun k (h : k = pb) => ⟨.inl h, by omega⟩, hT4.ne⟩
    have HB4 : Hid (Below w.heap.size w w4) := K3.out.trans (kr.toBelow K3.out.size (fun b hb => hb.elim))
    obtain ⟨n, hn⟩ : ∃ n : Nat, n = O.length := ⟨_, rfl⟩
    rw [← hn] at hl16 hO hgC ⊢
    have hgD : ∀ g, (Value.slice AO n cO).ownBlock = some g → C ≤ g ∧ g < D := fun g hg => ⟨hgC g hg, by rw [hD4]; exact own_ltk hO hg⟩
    have hP : ∀ m m', m < n → m' < n → (pr O m).1 = (pr O m').1 → m = m' := fun m m' h h' e => hD m m' (by omega) (by omega) e
    have HN := Lib.hid hn
    have HP := Lib.hid hP
    have HG := Lib.hid hgD
    have HO := Lib.hid hO
    have HD4 := Lib.hid hD4
    clear hn hP hgD hO hgC hD hT4 kr hD4
    go_wp2_with fail
    go_loopw [12] (fun s12 wr => ∃ (i : Nat) (La Lb : List (Int × Int)) (Sa Sb : Nat → Prop), i ≤ n ∧ s12 = .int .i64 (i : Int) ∧ Two D wr Sa Sb pa pb La Lb ∧ Unl (fun j => j) (pr O) i La ∧ Unl (fun j => (j + f) % n) (pr O) i Lb ∧ wr.ownsRow 0 29 3 (.slice AO n cO) n (flat3 O) ∧ D ≤ wr.heap.size ∧ Below w.heap.size w wr) (fun s12 _ => n - (intOf s12).toNat)
    case atStart => exact ⟨0, [], [], _, _, by omega, rfl, HT4.out, Unl.nil _ _, Unl.nil _ _, HO.out, by have := HD4.out; omega, HB4.out⟩
    case round =>
      obtain ⟨i, La, Lb, Sa, Sb, hin, rfl, hT, hUa, hUb, hO, hDw, hb⟩ := hrel
      by_cases hlt : i < n
      · have hlt' : (i : Int) < (n : Int) := by omega
        have hi0 : (0 : Int) ≤ (i : Int) := by omega
        obtain ⟨g, rfl, _, d1, d2⟩ := op_at hO HN.out hlt
        obtain ⟨y, hy⟩ : ∃ y : Int, y = (pr O i).1 := ⟨_, rfl⟩
        obtain ⟨z, hz⟩ : ∃ z : Int, z = (pr O i).2 := ⟨_, rfl⟩
        replace d1 : wr.cell? ⟨g, i * 3 + 1, none⟩ = some (.int .i64 y) := by rw [hy]; exact d1
        replace d2 : wr.cell? ⟨g, i * 3 + 2, none⟩ = some (.int .i64 z) := by rw [hz]; exact d2
        obtain ⟨va, hKa⟩ := hT.a
        have hla := hUa.len
        have hlb' := hUb.len
        have PC := Lib.hid (put_any wr.drew _ pa 16 va La (hKa.keep (T := fun _ => False) (Keeps.refl _ _).drew (fun _ _ _ h => h)) (by omega) y z)
        have HY := Lib.hid hy
        have HZ := Lib.hid hz
        have HT := Lib.hid hT
        have HUa := Lib.hid hUa
        have HUb := Lib.hid hUb
        have HO' := Lib.hid hO
        have HB := Lib.hid hb
        have HLa := Lib.hid hla
        have HLb := Lib.hid hlb'
        clear hy hz hKa hT hUa hUb hO hb hla hlb'
        go_wp2_with fail
        go_still_tail 11, (by kernel_rfl)
        change wpList _ _ _ _ _ wr.drew
        go_wp2_with fail
        refine PC.out.mono ?_
        rintro e w5 ⟨v5, M5, rfl, hd5, hK5, hk5⟩
        have hT5 := (HT.out.keep (Keeps.refl _ _).drew).stepA (by simpa using hDw) hK5 hk5
        rw [HY.out, HZ.out] at hd5
        have hUa5 := HUa.out.put hlt hl16 (fun j j' _ _ h => h) (fun j h => h) HP.out hd5
        have hg : C ≤ g ∧ g < D := HG.out g rfl
        have hO5 : w5.ownsRow 0 29 3 (.slice (some ⟨g, 0, none⟩) n cO) n (flat3 O) := ownsRow_keep HO'.out fun k hk => (hk5.block k (own_ltk HO'.out hk) (fun hS => by
          have h1 : g = k := by simpa [Value.ownBlock] using hk
          have h2 := (HT.out.sa k hS).1
          omega)).trans rfl
        have hB5 : Below w.heap.size w w5 := (HB.out.drew).trans (hk5.toBelow HB.out.size (fun k hk => by
          have h2 := (HT.out.sa k hk).1
          have := HBs.out
          omega))
        have hDw5 : D ≤ w5.heap.size := Nat.le_trans (by simpa using hDw) hk5.size
        obtain ⟨j, hj⟩ : ∃ j : Nat, j = (i + f) % n := ⟨_, rfl⟩
        have hjn : j < n := by rw [hj]; exact Nat.mod_lt _ (by omega)
        have hj' : ((i : Int) + (f : Int)) % (n : Int) = (j : Int) := by rw [hj, Int.natCast_emod, Int.natCast_add]
        have hjn' : (j : Int) < (n : Int) := by omega
        have hj0 : (0 : Int) ≤ (j : Int) := by omega
        obtain ⟨g', hg', c0, c1, c2⟩ := op_at hO5 HN.out hjn
        simp only [Option.some.injEq, Addr.mk.injEq, and_true] at hg'
        subst hg'
        obtain ⟨q2, hq2⟩ : ∃ q : Nat, q = (O.getD j (0, 0, 0)).1 := ⟨_, rfl⟩
        obtain ⟨y2, hy2⟩ : ∃ y : Int, y = (pr O j).1 := ⟨_, rfl⟩
        obtain ⟨z2, hz2'⟩ : ∃ z : Int, z = (pr O j).2 := ⟨_, rfl⟩
        rw [← hq2] at c0
        replace c1 : w5.cell? ⟨g, j * 3 + 1, none⟩ = some (.int .i64 y2) := by rw [hy2]; exact c1
        replace c2 : w5.cell? ⟨g, j * 3 + 2, none⟩ = some (.int .i64 z2) := by rw [hz2']; exact c2
        have hn0 : (0 : Int) < (n : Int) := by omega
        have HJ := Lib.hid hj
        have HY2 := Lib.hid hy2
        have HZ2 := Lib.hid hz2'
        have HT5 := Lib.hid hT5
        have HUa5 := Lib.hid hUa5
        have HO5 := Lib.hid hO5
        have HB5 := Lib.hid hB5
        clear hj hq2 hy2 hz2' hT5 hUa5 hO5 hB5 hd5 hK5 hk5 hg d1 d2 PC
        go_wp2_with fail
        obtain ⟨w6, hw6⟩ : ∃ w6 : World, w6 = w5.alloc (.cells #[.int .u8 (q2 : Int), .int .i64 y2, .int .i64 z2] 29) := ⟨_, rfl⟩
        rw [← hw6]
        have k6 : Keeps (fun _ => False) w5 w6 := by rw [hw6]; exact (Keeps.refl _ _).alloc _
        have hT6 := HT5.out.keep k6
        obtain ⟨vb, hKb⟩ := hT6.b
        have hO6 := ownsRow_keep HO5.out fun k hk => k6.block k (own_ltk HO5.out hk) (fun h => h)
        have hB6 : Below w.heap.size w w6 := HB5.out.trans (k6.toBelow HB5.out.size (fun b hb => hb.elim))
        have hDw6 : D ≤ w6.heap.size := Nat.le_trans hDw5 k6.size
        have HT6 := Lib.hid hT6
        have HO6 := Lib.hid hO6
        have HB6 := Lib.hid hB6
        clear hw6 k6 hT6 hO6 hB6 c0 c1 c2 hj'
        refine (put_any w6 _ pb 16 vb Lb hKb (by have := HLb.out; omega) y2 z2).mono ?_
        rintro e w7 ⟨v7, M7, rfl, hd7, hK7, hk7⟩
        have hT7 := HT6.out.stepB hDw6 hK7 hk7
        rw [HY2.out, HZ2.out, HJ.out] at hd7
        have hUb7 := HUb.out.put (n := n) hlt hl16 rot_inj (fun j h => Nat.mod_lt _ (by omega)) HP.out hd7
        have hg : C ≤ g ∧ g < D := HG.out g rfl
        have hO7 : w7.ownsRow 0 29 3 (.slice (some ⟨g, 0, none⟩) n cO) n (flat3 O) := ownsRow_keep HO6.out fun k hk => hk7.block k (own_ltk HO6.out hk) (fun hS => by
          have h1 : g = k := by simpa [Value.ownBlock] using hk
          have h2 := (HT6.out.sb k hS).1
          omega)
        have hB7 : Below w.heap.size w w7 := HB6.out.trans (hk7.toBelow HB6.out.size (fun k hk => by
          have h2 := (HT6.out.sb k hk).1
          have := HBs.out
          omega))
        have hDw7 : D ≤ w7.heap.size := Nat.le_trans hDw6 hk7.size
        have HT7 := Lib.hid hT7
        have HUb7 := Lib.hid hUb7
        have HO7 := Lib.hid hO7
        have HB7 := Lib.hid hB7
        clear hT7 hUb7 hO7 hB7 hd7 hK7 hk7 hKb hg
        go_wp2
        go_roundw
        case rel => exact ⟨i + 1, M5, M7, _, _, by omega, by go_num, HT7.out, HUa5.out, HUb7.out, HO7.out, hDw7, HB7.out⟩
        case measure => simp [intOf]; omega
      · obtain rfl : i = n := by omega
        have hd : decide (i < i) = false := by simp
        obtain ⟨va, hKa⟩ := hT.a
        obtain ⟨vb, hKb⟩ := hT.b
        have hla := hUa.len
        have hUpA : Up La := hKa.up
        have hUpB : Up Lb := hKb.up
        have hab : Lb = La := by
          rcases Nat.eq_zero_or_pos i with h0 | h0
          · have h1 := hUa.len
            have h2 := hUb.len
            rw [h0] at h1 h2
            rw [List.length_eq_zero_iff.1 h1, List.length_eq_zero_iff.1 h2]
          · exact hUa.same h0 hUb hUpA hUpB
        subst hab
        have hmem : ∀ m, m < i → pr O m ∈ Lb := fun m hm => (hUa.mem _).2 ⟨m, hm, rfl⟩
        have TC := Lib.hid (times_any wr _ pa 16 va Lb hKa (by omega))
        have HKa := Lib.hid hKa
        have HKb := Lib.hid hKb
        have HM := Lib.hid hmem
        have HUp := Lib.hid hUpA
        have HLa := Lib.hid hla
        have HO' := Lib.hid hO
        have HB := Lib.hid hb
        clear hT hUa hUb hKa hKb hmem hUpA hUpB hla hO hb
        go_wp2_with fail
        refine TC.out.mono ?_
        rintro e w5 ⟨ta, rfl, hta, _, k5⟩
        obtain ⟨Ta, ca, rfl⟩ := own_formk hta
        rw [HLa.out] at hta ⊢
        have HKa5 := Lib.hid (HKa.out.keep k5 (fun _ _ _ h => h))
        have HKb5 := Lib.hid (HKb.out.keep k5 (fun _ _ _ h => h))
        have HO5 := Lib.hid (ownsRow_keep HO'.out fun k hk => k5.block k (own_ltk HO'.out hk) (fun h => h))
        have HB5 : Hid (Below w.heap.size w w5) := HB.out.trans (k5.toBelow HB.out.size (fun b hb => hb.elim))
        have HTa := Lib.hid hta
        clear hta k5 TC
        go_wp2_with fail
        refine (times_any w5 _ pb 16 vb Lb HKb5.out (by have := HLa.out; omega)).mono ?_
        rintro e w6 ⟨tb, rfl, htb, _, k6⟩
        obtain ⟨Tb, cb, rfl⟩ := own_formk htb
        rw [HLa.out] at htb ⊢
        have HKa6 := Lib.hid (HKa5.out.keep k6 (fun _ _ _ h => h))
        have HKb6 := Lib.hid (HKb5.out.keep k6 (fun _ _ _ h => h))
        have HO6 := Lib.hid (ownsRow_keep HO5.out fun k hk => k6.block k (own_ltk HO5.out hk) (fun h => h))
        have HB6 : Hid (Below w.heap.size w w6) := HB5.out.trans (k6.toBelow HB5.out.size (fun b hb => hb.elim))
        have HTa6 := Lib.hid (ownsRow_keep HTa.out fun k hk => k6.block k (own_ltk HTa.out hk) (fun h => h))
        have HTb := Lib.hid htb
        clear htb k6
        go_wp2_with fail
        clear hd
        go_loopw [16] (fun s16 wr => ∃ m : Nat, m ≤ i ∧ s16 = .int .i64 (m : Int) ∧ Keeps (fun _ => False) w6 wr) (fun s16 _ => i - (intOf s16).toNat)
        case atStart => exact ⟨0, by omega, rfl, Keeps.refl _ _⟩
        case round =>
          obtain ⟨m, hm, rfl, kr⟩ := hrel
          by_cases hmi : m < i
          · have hmi' : (m : Int) < (i : Int) := by omega
            have hm0 : (0 : Int) ≤ (m : Int) := by omega
            have hot := ownsRow_keep HO6.out fun j hj => kr.block j (own_ltk HO6.out hj) (fun h => h)
            obtain ⟨g, rfl, _, d1, d2⟩ := op_at hot HN.out hmi
            obtain ⟨y, hy⟩ : ∃ y : Int, y = (pr O m).1 := ⟨_, rfl⟩
            obtain ⟨z, hz⟩ : ∃ z : Int, z = (pr O m).2 := ⟨_, rfl⟩
            replace d1 : wr.cell? ⟨g, m * 3 + 1, none⟩ = some (.int .i64 y) := by rw [hy]; exact d1
            replace d2 : wr.cell? ⟨g, m * 3 + 2, none⟩ = some (.int .i64 z) := by rw [hz]; exact d2
            have hgl := cell_ltk d1
            have hin := HM.out m hmi
            have BA := Lib.hid (best_any wr _ pa 16 va Lb (HKa6.out.keep kr (fun _ _ _ h => h)) (by have := HLa.out; omega) y)
            have HY := Lib.hid hy
            have HZ := Lib.hid hz
            have KR := Lib.hid kr
            clear hot hy hz kr
            go_wp2_with fail
            refine BA.out.mono ?_
            rintro e w7 h7
            obtain ⟨b1, z1, ok1, rfl, hbd1, k7⟩ := bestD_of HUp.out h7
            rw [HY.out] at hbd1
            obtain ⟨rfl, e1, e2⟩ := best_in HUp.out hbd1 hin
            rw [← HY.out] at e1
            rw [← HZ.out] at e2
            subst e1 e2
            have d1' := (k7.cell (o := m * 3 + 1) hgl (fun h => h)).trans d1
            have d2' := (k7.cell (o := m * 3 + 2) hgl (fun h => h)).trans d2
            have hgl7 := Nat.lt_of_lt_of_le hgl k7.size
            have kr7 := KR.out.trans k7 (fun _ _ h => h)
            have BB := Lib.hid (best_any w7 _ pb 16 vb Lb (HKb6.out.keep kr7 (fun _ _ _ h => h)) (by have := HLa.out; omega) b1)
            have KR7 := Lib.hid kr7
            clear h7 hbd1 k7 kr7 d1 d2
            go_wp2_with fail
            refine BB.out.mono ?_
            rintro e w8 h8
            obtain ⟨b2, z2, ok2, rfl, hbd2, k8⟩ := bestD_of HUp.out h8
            rw [HY.out] at hbd2
            obtain ⟨rfl, e1, e2⟩ := best_in HUp.out hbd2 hin
            rw [← HY.out] at e1
            rw [← HZ.out] at e2
            subst e1 e2
            have d1 := (k8.cell (o := m * 3 + 1) hgl7 (fun h => h)).trans d1'
            have d2 := (k8.cell (o := m * 3 + 2) hgl7 (fun h => h)).trans d2'
            have kr8 := KR7.out.trans k8 (fun _ _ h => h)
            have hta := ownsRow_keep HTa6.out fun j hj => kr8.block j (own_ltk HTa6.out hj) (fun h => h)
            have htb := ownsRow_keep HTb.out fun j hj => kr8.block j (own_ltk HTb.out hj) (fun h => h)
            obtain ⟨ga, rfl, ta1⟩ := time_at hta HLa.out.symm hmi
            obtain ⟨gb, rfl, tb1⟩ := time_at htb HLa.out.symm hmi
            obtain ⟨s, hs⟩ : ∃ s : Int, s = (Lb.getD m (0, 0)).1 := ⟨_, rfl⟩
            rw [← hs] at ta1 tb1
            have KR8 := Lib.hid kr8
            clear h8 hbd2 k8 kr8 d1' d2' hta htb hs hin
            go_wp2_with fail
            go_quiet (fail)
            go_wp2
            go_roundw
            case rel => exact ⟨m + 1, by omega, by go_num, KR8.out.trans (T := fun _ => False) (keeps_drewNk _ _ _) (fun _ _ h => h)⟩
            case measure => simp [intOf]; omega
          · obtain rfl : m = i := by omega
            have hd : decide (m < m) = false := by simp
            have KR := Lib.hid kr
            clear kr
            go_wp2
            go_ret
            exact ⟨rfl, HB6.out.trans (KR.out.toBelow HB6.out.size (fun b hb => hb.elim))⟩

end Go.Proofs.Ytpighdioomjnmab
