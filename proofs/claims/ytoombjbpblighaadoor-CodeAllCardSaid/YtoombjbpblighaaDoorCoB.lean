/-
  Layer 8: the contracts of Itoa and May. Written by an AI agent.
-/
import Derived.Test.YtoombjbpblighaaDoorCoA
namespace Go.Proofs.YtoombjbpblighaaDoor
open Go Go.RowKit Go.Shelf
set_option linter.unusedVariables false
set_option linter.unusedSimpArgs false

theorem below_grow (w : World) (k : Nat) (os : Array Obj) : Below w.heap.size w (Sort.grow (w.drewN k) os) := by
  have h1 : ∀ k, (w.drewN k).heap = w.heap ∧ (w.drewN k).os = w.os ∧ (w.drewN k).tape = w.tape ∧ (w.drewN k).output = w.output := by
    intro k
    induction k with
    | zero => exact ⟨rfl, rfl, rfl, rfl⟩
    | succ k ih => exact ih
  obtain ⟨e1, e2, e3, e4⟩ := h1 k
  refine ⟨e2, e3, e4, by rw [Sort.size_grow, e1]; omega, fun j hj => ?_⟩
  rw [Sort.heap_grow_old _ os (by rw [e1]; exact hj), e1]
theorem itoa_any (n : Int) (h0 : -9223372036854775808 ≤ n) (h1 : n ≤ 9223372036854775807) (w : World) (hw : CodeW w) :
    Calls Tryd.prog 62 #[.int .i64 n] w fun e w' => e = .returned (.string (ofL (Lib.itoa n))) ∧ Keeps (fun _ => False) w w' :=
  (Any.strconv_Itoa laysItoa n h0 h1 w hw.pow.1).mono fun e w' ⟨he, k, os, hw⟩ => ⟨he, by rw [hw]; exact Keeps.ofBelow (below_grow w k os)⟩

theorem has_four (op : Int) : hasN op = 0 ∨ hasN op = 1 ∨ hasN op = 3 ∨ hasN op = 4 := by
  have h : ∀ P : Int → Prop, P 0 → P 1 → P 3 → P 4 → P (hasN op) := fun P p0 p1 p3 p4 => by
    unfold hasN
    by_cases h1 : op = 1
    · rw [if_pos h1]
      exact p1
    rw [if_neg h1]
    by_cases h2 : op = 2
    · rw [if_pos h2]
      exact p1
    rw [if_neg h2]
    by_cases h3 : op = 3
    · rw [if_pos h3]
      exact p1
    rw [if_neg h3]
    by_cases h4 : op = 4
    · rw [if_pos h4]
      exact p4
    rw [if_neg h4]
    by_cases h5 : op = 5
    · rw [if_pos h5]
      exact p3
    rw [if_neg h5]
    by_cases h6 : op = 6
    · rw [if_pos h6]
      exact p1
    rw [if_neg h6]
    by_cases h7 : op = 7
    · rw [if_pos h7]
      exact p4
    rw [if_neg h7]
    by_cases h11 : op = 11
    · rw [if_pos h11]
      exact p1
    rw [if_neg h11]
    by_cases h12 : op = 12
    · rw [if_pos h12]
      exact p1
    rw [if_neg h12]
    by_cases h16 : op = 16
    · rw [if_pos h16]
      exact p1
    rw [if_neg h16]
    by_cases h17 : op = 17
    · rw [if_pos h17]
      exact p1
    rw [if_neg h17]
    by_cases h18 : op = 18
    · rw [if_pos h18]
      exact p1
    rw [if_neg h18]
    by_cases h19 : op = 19
    · rw [if_pos h19]
      exact p1
    rw [if_neg h19]
    by_cases h20 : op = 20
    · rw [if_pos h20]
      exact p3
    rw [if_neg h20]
    by_cases h22 : op = 22
    · rw [if_pos h22]
      exact p1
    rw [if_neg h22]
    exact p0
  exact h (fun x => x = 0 ∨ x = 1 ∨ x = 3 ∨ x = 4) (.inl rfl) (.inr (.inl rfl)) (.inr (.inr (.inl rfl))) (.inr (.inr (.inr rfl)))

def withinB (x : Int) : Bool := decide (0 ≤ x) && decide (x ≤ 1073741824)
/-- It has what its kind has not. -/
def badN (o a b : Int) (s : ByteArray) : Bool := (((o == 0 || o == 4) && !(a == 0)) || ((o == 0 || o == 1 || o == 4) && !(b == 0))) || ((o == 0 || o == 1 || o == 3) && !(decide (s.size = 0)))
def mayN (op a b : Int) (s : ByteArray) : Bool := !(badN (hasN op) a b s) && (!(decide (nameN op = [])) && ((decide (op = 2) || withinB a) && (withinB b && decide (s.size ≤ 40))))

set_option maxHeartbeats 1000000 in
theorem within_any (x : Int) (w : World) : Calls Tryd.prog 60 #[.int .i64 x] w fun e w' => e = .returned (.bool (withinB x)) ∧ w' = w := by
  by_cases h1 : 0 ≤ x
  · have d1 : decide (0 ≤ x) = true := decide_eq_true h1
    by_cases h2 : x ≤ 1073741824
    · have d2 : decide (x ≤ 1073741824) = true := decide_eq_true h2
      have HV := Lib.hid (show withinB x = true by unfold withinB; rw [d1, d2]; rfl)
      go_enter Tryd.func60, Tryd.ntmps60
      go_wp2
      go_ret
      exact ⟨by rw [HV.out]; rfl, rfl⟩
    · have d2 : decide (x ≤ 1073741824) = false := decide_eq_false h2
      have HV := Lib.hid (show withinB x = false by unfold withinB; rw [d1, d2]; rfl)
      go_enter Tryd.func60, Tryd.ntmps60
      go_wp2
      go_ret
      exact ⟨by rw [HV.out]; rfl, rfl⟩
  · have d1 : decide (0 ≤ x) = false := decide_eq_false h1
    have HV := Lib.hid (show withinB x = false by unfold withinB; rw [d1]; rfl)
    go_enter Tryd.func60, Tryd.ntmps60
    go_wp2
    go_ret
    exact ⟨by rw [HV.out]; rfl, rfl⟩

set_option maxRecDepth 100000 in
set_option maxHeartbeats 8000000 in
theorem may_any (op a b : Int) (s : ByteArray) (h0 : -9223372036854775808 ≤ op) (h1 : op ≤ 9223372036854775807) (w : World) (hw : CodeW w) :
    Calls Tryd.prog 33 #[.agg #[.int .i64 op, .int .i64 a, .int .i64 b, .string s]] w fun e w' => e = .returned (.bool (mayN op a b s)) ∧ Keeps (fun _ => False) w w' := by
  have HW := Lib.hid hw
  clear hw
  have hfour := has_four op
  have HC : Hid (∀ w, Calls Tryd.prog 59 #[.int .i64 op] w fun e w' => e = .returned (.int .i64 (hasN op)) ∧ Keeps (fun _ => False) w w') := fun w => has_any op h0 h1 w
  have NC : Hid (∀ w, CodeW w → Calls Tryd.prog 37 #[.int .i64 op] w fun e w' => e = .returned (.string (ofL (nameN op))) ∧ Keeps (fun _ => False) w w') := fun w h => name_op op w h
  have hm : mayN op a b s = (!(badN (hasN op) a b s) && (!(decide (nameN op = [])) && ((decide (op = 2) || withinB a) && (withinB b && decide (s.size ≤ 40))))) := rfl
  obtain ⟨o, ho⟩ : ∃ o, o = hasN op := ⟨_, rfl⟩
  obtain ⟨nm, hnm⟩ : ∃ nm : ByteArray, nm = ofL (nameN op) := ⟨_, rfl⟩
  have hne : decide (nameN op = []) = decide (nm.size = 0) := by
    rw [hnm, ofL_size]
    simp only [List.length_eq_zero_iff]
  obtain ⟨M, hM⟩ : ∃ M, M = mayN op a b s := ⟨_, rfl⟩
  rw [hne, ← ho, ← hM] at hm
  rw [← ho] at hfour HC
  rw [← hnm] at NC
  rw [← hM]
  have HM := Lib.hid hm
  clear ho hnm hne hM hm
  go_enter Tryd.func33, Tryd.ntmps33
  go_wp2_with fail
  generalize hwA : w.alloc _ = wA
  have kA : Keeps (fun _ => False) w wA := by rw [← hwA]; exact (Keeps.refl _ _).alloc _
  have c0 : wA.cell? ⟨w.heap.size, 0, none⟩ = some (.int .i64 op) := by rw [← hwA]; simp
  have c1 : wA.cell? ⟨w.heap.size, 1, none⟩ = some (.int .i64 a) := by rw [← hwA]; simp
  have c2 : wA.cell? ⟨w.heap.size, 2, none⟩ = some (.int .i64 b) := by rw [← hwA]; simp
  have c3 : wA.cell? ⟨w.heap.size, 3, none⟩ = some (.string s) := by rw [← hwA]; simp
  obtain ⟨pn, hpn⟩ : ∃ pn, pn = w.heap.size := ⟨_, rfl⟩
  rw [← hpn] at c0 c1 c2 c3 ⊢
  clear hwA hpn
  refine (HC.out wA).mono ?_
  rintro e w1 ⟨rfl, k1⟩
  have hbl := cell_ltk c0
  have d0 := (k1.cell hbl (fun h => h)).trans c0
  have d1 := (k1.cell hbl (fun h => h)).trans c1
  have d2 := (k1.cell hbl (fun h => h)).trans c2
  have d3 := (k1.cell hbl (fun h => h)).trans c3
  have K1 := Lib.hid (kA.trans k1 (fun _ _ h => h))
  have NC1 := Lib.hid (NC.out w1 (HW.out.keep K1.out))
  clear c0 c1 c2 c3 kA k1 HC NC
  have hem := empty_iff s
  obtain ⟨z, hz⟩ : ∃ z : Bool, z = decide (s.size = 0) := ⟨_, rfl⟩
  rw [← hz] at hem
  obtain ⟨bad, hbad⟩ : ∃ bad, bad = badN o a b s := ⟨_, rfl⟩
  rw [← hbad] at HM
  have hbl := cell_ltk d0
  go_upto_region 2 with fail
  go_cut [35] (fun s35 wx => s35 = .bool bad ∧ wx = w1)
  case first =>
    unfold badN at hbad
    rw [← hz] at hbad
    have HBD := Lib.hid hbad
    clear hbad HM hz
    rcases hfour with rfl | rfl | rfl | rfl
    · by_cases ha : a = 0
      · have qa : (a == 0) = true := by simp [ha]
        have pa : (a != 0) = false := by simp [ha]
        rw [qa] at HBD
        clear ha
        by_cases hb : b = 0
        · have qb : (b == 0) = true := by simp [hb]
          have pb : (b != 0) = false := by simp [hb]
          rw [qb] at HBD
          clear hb
          cases z with
          | false =>
            go_wp2
            go_meet
            exact ⟨by rw [HBD.out]; rfl, rfl⟩
          | true =>
            go_wp2
            go_meet
            exact ⟨by rw [HBD.out]; rfl, rfl⟩
        · have qb : (b == 0) = false := by simp [hb]
          have pb : (b != 0) = true := by simp [hb]
          rw [qb] at HBD
          go_wp2
          go_meet
          exact ⟨by rw [HBD.out]; rfl, rfl⟩
      · have qa : (a == 0) = false := by simp [ha]
        have pa : (a != 0) = true := by simp [ha]
        rw [qa] at HBD
        go_wp2
        go_meet
        exact ⟨by rw [HBD.out]; rfl, rfl⟩
    · by_cases hb : b = 0
      · have qb : (b == 0) = true := by simp [hb]
        have pb : (b != 0) = false := by simp [hb]
        rw [qb] at HBD
        clear hb
        cases z with
        | false =>
          go_wp2
          go_meet
          exact ⟨by rw [HBD.out]; rfl, rfl⟩
        | true =>
          go_wp2
          go_meet
          exact ⟨by rw [HBD.out]; rfl, rfl⟩
      · have qb : (b == 0) = false := by simp [hb]
        have pb : (b != 0) = true := by simp [hb]
        rw [qb] at HBD
        go_wp2
        go_meet
        exact ⟨by rw [HBD.out]; rfl, rfl⟩
    · cases z with
      | false =>
        go_wp2
        go_meet
        exact ⟨by rw [HBD.out]; rfl, rfl⟩
      | true =>
        go_wp2
        go_meet
        exact ⟨by rw [HBD.out]; rfl, rfl⟩
    · by_cases ha : a = 0
      · have qa : (a == 0) = true := by simp [ha]
        have pa : (a != 0) = false := by simp [ha]
        rw [qa] at HBD
        clear ha
        by_cases hb : b = 0
        · have qb : (b == 0) = true := by simp [hb]
          have pb : (b != 0) = false := by simp [hb]
          rw [qb] at HBD
          clear hb
          go_wp2
          go_meet
          exact ⟨by rw [HBD.out]; rfl, rfl⟩
        · have qb : (b == 0) = false := by simp [hb]
          have pb : (b != 0) = true := by simp [hb]
          rw [qb] at HBD
          go_wp2
          go_meet
          exact ⟨by rw [HBD.out]; rfl, rfl⟩
      · have qa : (a == 0) = false := by simp [ha]
        have pa : (a != 0) = true := by simp [ha]
        rw [qa] at HBD
        go_wp2
        go_meet
        exact ⟨by rw [HBD.out]; rfl, rfl⟩
  case rest =>
    obtain ⟨rfl, hw⟩ := hcut
    obtain rfl : w1 = wc := hw.symm
    have HZ := Lib.hid hz
    have HBD := Lib.hid hbad
    clear hw hz hbad hem hfour
    cases bad with
    | true =>
      have HM2 : Hid (M = false) := by rw [HM.out]; exact Lib.hid rfl
      go_wp2
      go_ret
      exact ⟨by rw [HM2.out]; rfl, K1.out⟩
    | false =>
      have HM2 : Hid (M = (!(decide (nm.size = 0)) && ((decide (op = 2) || withinB a) && (withinB b && decide (s.size ≤ 40))))) := HM.out
      go_wp2_with fail
      refine NC1.out.mono ?_
      rintro e w2 ⟨rfl, k2⟩
      have e0 := (k2.cell hbl (fun h => h)).trans d0
      have e1 := (k2.cell hbl (fun h => h)).trans d1
      have e2 := (k2.cell hbl (fun h => h)).trans d2
      have e3 := (k2.cell hbl (fun h => h)).trans d3
      have K2 := Lib.hid (K1.out.trans k2 (fun _ _ h => h))
      clear d0 d1 d2 d3 k2 NC1
      have hemn := empty_iff nm
      have WA : Hid (Calls Tryd.prog 60 #[.int .i64 a] w2 fun e w' => e = .returned (.bool (withinB a)) ∧ w' = w2) := Lib.hid (within_any a w2)
      have WB : Hid (Calls Tryd.prog 60 #[.int .i64 b] w2 fun e w' => e = .returned (.bool (withinB b)) ∧ w' = w2) := Lib.hid (within_any b w2)
      obtain ⟨wa, hwa⟩ : ∃ wa, wa = withinB a := ⟨_, rfl⟩
      obtain ⟨wb, hwb⟩ : ∃ wb, wb = withinB b := ⟨_, rfl⟩
      rw [← hwa] at WA HM2
      rw [← hwb] at WB HM2
      clear hwa hwb
      by_cases hn : nm.size = 0
      · rw [decide_eq_true hn] at hemn HM2
        have HN := Lib.hid hn
        clear hn
        go_wp2
        go_ret
        exact ⟨by rw [HM2.out]; rfl, K2.out⟩
      · rw [decide_eq_false hn] at hemn HM2
        by_cases ho2 : op = 2
        · have q2 : (op == 2) = true := by simp [ho2]
          rw [decide_eq_true ho2] at HM2
          have HO := Lib.hid ho2
          clear ho2
          cases wb with
          | false =>
            go_wp2_with fail
            refine WB.out.mono ?_
            rintro e w3 ⟨rfl, hw⟩
            obtain rfl : w2 = w3 := hw.symm
            clear hw WB
            go_wp2
            go_ret
            exact ⟨by rw [HM2.out]; rfl, K2.out⟩
          | true =>
            go_wp2_with fail
            refine WB.out.mono ?_
            rintro e w3 ⟨rfl, hw⟩
            obtain rfl : w2 = w3 := hw.symm
            clear hw WB
            by_cases h40 : s.size ≤ 40
            · have h40I : (s.size : Int) ≤ 40 := by omega
              have h40d : decide ((s.size : Int) ≤ 40) = true := decide_eq_true h40I
              rw [decide_eq_true h40] at HM2
              go_wp2
              go_ret
              exact ⟨by rw [HM2.out]; rfl, K2.out⟩
            · have h40I : ¬ (s.size : Int) ≤ 40 := by omega
              have h40d : decide ((s.size : Int) ≤ 40) = false := decide_eq_false h40I
              rw [decide_eq_false h40] at HM2
              go_wp2
              go_ret
              exact ⟨by rw [HM2.out]; rfl, K2.out⟩
        · have q2 : (op == 2) = false := by simp [ho2]
          rw [decide_eq_false ho2] at HM2
          cases wa with
          | false =>
            go_wp2_with fail
            refine WA.out.mono ?_
            rintro e w3 ⟨rfl, hw⟩
            obtain rfl : w2 = w3 := hw.symm
            clear hw WA
            go_wp2
            go_ret
            exact ⟨by rw [HM2.out]; rfl, K2.out⟩
          | true =>
            go_wp2_with fail
            refine WA.out.mono ?_
            rintro e w3 ⟨rfl, hw⟩
            obtain rfl : w2 = w3 := hw.symm
            clear hw WA
            cases wb with
            | false =>
              go_wp2_with fail
              refine WB.out.mono ?_
              rintro e w3 ⟨rfl, hw⟩
              obtain rfl : w2 = w3 := hw.symm
              clear hw WB
              go_wp2
              go_ret
              exact ⟨by rw [HM2.out]; rfl, K2.out⟩
            | true =>
              go_wp2_with fail
              refine WB.out.mono ?_
              rintro e w3 ⟨rfl, hw⟩
              obtain rfl : w2 = w3 := hw.symm
              clear hw WB
              by_cases h40 : s.size ≤ 40
              · have h40I : (s.size : Int) ≤ 40 := by omega
                have h40d : decide ((s.size : Int) ≤ 40) = true := decide_eq_true h40I
                rw [decide_eq_true h40] at HM2
                go_wp2
                go_ret
                exact ⟨by rw [HM2.out]; rfl, K2.out⟩
              · have h40I : ¬ (s.size : Int) ≤ 40 := by omega
                have h40d : decide ((s.size : Int) ≤ 40) = false := decide_eq_false h40I
                rw [decide_eq_false h40] at HM2
                go_wp2
                go_ret
                exact ⟨by rw [HM2.out]; rfl, K2.out⟩

end Go.Proofs.YtoombjbpblighaaDoor
