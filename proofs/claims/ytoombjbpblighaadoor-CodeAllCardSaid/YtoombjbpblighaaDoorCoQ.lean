/-
  Layer 8: the contract of Put. Written by an AI agent.
-/
import Derived.Test.YtoombjbpblighaaDoorCoI
namespace Go.Proofs.YtoombjbpblighaaDoor
open Go Go.RowKit Go.Shelf
set_option linter.unusedVariables false
set_option linter.unusedSimpArgs false

theorem ins_le {x : Ins} (h : mayN x.o x.a x.b x.s = true) : (insB x).length ≤ 42 := by
  have hs : x.s.size ≤ 40 := by
    unfold mayN at h
    simp only [Bool.and_eq_true, decide_eq_true_eq] at h
    exact h.2.2.2.2
  have h8 : ∀ a, (bytes8 a).length = 8 := fun a => rfl
  have hl := strI_length x.s
  unfold insB
  rcases has_four x.o with e | e | e | e <;> rw [e] <;> simp [h8, hl] <;> omega
theorem flat_le (L : List Ins) (h : ∀ x ∈ L, mayN x.o x.a x.b x.s = true) : (L.flatMap insB).length ≤ L.length * 42 := by
  induction L with
  | nil => exact Nat.le_refl _
  | cons a l ih =>
    have h1 := ih fun x hx => h x (by simp [hx])
    have h2 := ins_le (h a (by simp))
    rw [List.flatMap_cons, List.length_append, List.length_cons, Nat.succ_mul]
    omega
theorem Grows.keeps {w w' : World} {v : Value} (h : Grows w (.slice none 0 0) w' v) : Keeps (fun _ => False) w w' := h.1.mono (fun b _ e => by cases e)
/-- Numbers that lie at a slice's cells. -/
def RdZ (w : World) (E : Option Addr) (L : List Int) : Prop := 0 < L.length → ∃ b off, E = some ⟨b, off, none⟩ ∧ ∀ k, k < L.length → w.cell? ⟨b, off + k, none⟩ = some (.int .i64 (L.getD k 0))
theorem RdI.keep {w w' : World} {A : Option Addr} {L : List Ins} (h : RdI w A L) (hk : Keeps (fun _ => False) w w') : RdI w' A L := fun h0 => by
  obtain ⟨b, off, e, hc⟩ := h h0
  have hb : b < w.heap.size := cell_ltk (hc 0 h0).1
  refine ⟨b, off, e, fun k hk2 => ?_⟩
  obtain ⟨c0, c1, c2, c3⟩ := hc k hk2
  exact ⟨(hk.cell hb (fun h => h)).trans c0, (hk.cell hb (fun h => h)).trans c1, (hk.cell hb (fun h => h)).trans c2, (hk.cell hb (fun h => h)).trans c3⟩
theorem RdZ.keep {w w' : World} {A : Option Addr} {L : List Int} (h : RdZ w A L) (hk : Keeps (fun _ => False) w w') : RdZ w' A L := fun h0 => by
  obtain ⟨b, off, e, hc⟩ := h h0
  have hb : b < w.heap.size := cell_ltk (hc 0 h0)
  exact ⟨b, off, e, fun k hk2 => (hk.cell hb (fun h => h)).trans (hc k hk2)⟩
def InsOk (x : Ins) : Prop := -9223372036854775808 ≤ x.o ∧ x.o ≤ 9223372036854775807 ∧ x.s.size ≤ 10000

def mayI (x : Ins) : Bool := mayN x.o x.a x.b x.s
def putB (L : List Ins) (E : List Int) : List Int := [(E.length : Int) % 256] ++ E.flatMap bytes8 ++ bytes8 (L.length : Int) ++ L.flatMap insB
def PutE (L : List Ins) (E : List Int) (w : World) (e : Ending) (w' : World) : Prop :=
  (if 1200 < L.length ∨ 6 < E.length then e = .returned (.tuple #[.slice none 0 0, .int .i64 4])
   else if (∃ x ∈ L, mayI x = false) ∨ (∃ a ∈ E, a < 0 ∨ (L.length : Int) < a) then e = .returned (.tuple #[.slice none 0 0, .int .i64 1])
   else ∃ v, e = .returned (.tuple #[v, .int .i64 0]) ∧ OutB w' v (putB L E) ∧ ∀ g, v.ownBlock = some g → w.heap.size ≤ g) ∧ Keeps (fun _ => False) w w'

set_option maxRecDepth 100000 in
set_option maxHeartbeats 8000000 in
theorem put_code (I : Option Addr) (c : Nat) (L : List Ins) (E : Option Addr) (d : Nat) (Z : List Int) (hL : L.length ≤ 100000) (hZ : Z.length ≤ 100000) (hok : ∀ x ∈ L, InsOk x) (hzo : ∀ a ∈ Z, -9223372036854775808 ≤ a ∧ a ≤ 9223372036854775807) (w : World) (hw : CodeW w) (hI : RdI w I L) (hE : RdZ w E Z) :
    Calls Tryd.prog 28 #[.agg #[.slice I L.length c, .slice E Z.length d]] w (PutE L Z w) := by
  obtain ⟨i0, hi, hz0, hz1, hz2⟩ := info_parts info5
  obtain ⟨n, hn⟩ : ∃ n, n = L.length := ⟨_, rfl⟩
  obtain ⟨m, hm⟩ : ∃ m, m = Z.length := ⟨_, rfl⟩
  rw [← hn] at hL ⊢
  rw [← hm] at hZ ⊢
  have HN := Lib.hid hn
  have HM := Lib.hid hm
  have HW := Lib.hid hw
  have HI := Lib.hid hI
  have HE := Lib.hid hE
  have HOK := Lib.hid hok
  have HZO := Lib.hid hzo
  clear hn hm hw hI hE hok hzo
  have hfb : 1200 < n ∨ 6 < m → ∀ o, PutE L Z w (.returned (.tuple #[.slice none 0 0, .int .i64 4])) (w.alloc o) := fun h o => ⟨by rw [← HN.out, ← HM.out, if_pos h], (Keeps.refl _ _).alloc _⟩
  have HFB := Lib.hid hfb
  clear hfb
  by_cases hb1 : 1200 < n
  · have hb1I : (1200 : Int) < (n : Int) := by omega
    have hb1d : decide ((1200 : Int) < (n : Int)) = true := decide_eq_true hb1I
    have HF := Lib.hid (HFB.out (.inl hb1))
    clear hb1
    go_enter Tryd.func28, Tryd.ntmps28
    go_wp2
    go_ret2
    exact HF.out _
  have hb1I : ¬ (1200 : Int) < (n : Int) := by omega
  have hb1d : decide ((1200 : Int) < (n : Int)) = false := decide_eq_false hb1I
  by_cases hb2 : 6 < m
  · have hb2I : (6 : Int) < (m : Int) := by omega
    have hb2d : decide ((6 : Int) < (m : Int)) = true := decide_eq_true hb2I
    have HF := Lib.hid (HFB.out (.inr hb2))
    clear hb2
    go_enter Tryd.func28, Tryd.ntmps28
    go_wp2
    go_ret2
    exact HF.out _
  have hb2I : ¬ (6 : Int) < (m : Int) := by omega
  have hb2d : decide ((6 : Int) < (m : Int)) = false := decide_eq_false hb2I
  have hbad : ((∃ x ∈ L, mayI x = false) ∨ (∃ a ∈ Z, a < 0 ∨ (n : Int) < a)) → ∀ w', Keeps (fun _ => False) w w' → PutE L Z w (.returned (.tuple #[.slice none 0 0, .int .i64 1])) w' := fun h w' k => ⟨by rw [← HN.out, ← HM.out, if_neg (by omega), if_pos h], k⟩
  have HBAD := Lib.hid hbad
  clear hbad HFB
  go_enter Tryd.func28, Tryd.ntmps28
  go_wp2_with fail
  generalize hwA : w.alloc _ = wA
  have kA : Keeps (fun _ => False) w wA := by rw [← hwA]; exact (Keeps.refl _ _).alloc _
  have c0 : wA.cell? ⟨w.heap.size, 0, none⟩ = some (.slice I n c) := by rw [← hwA]; simp
  have c1 : wA.cell? ⟨w.heap.size, 1, none⟩ = some (.slice E m d) := by rw [← hwA]; simp
  have HA := Lib.hid kA
  have HIA := Lib.hid (HI.out.keep kA)
  have HEA := Lib.hid (HE.out.keep kA)
  obtain ⟨pn, hpn⟩ : ∃ pn, pn = w.heap.size := ⟨_, rfl⟩
  rw [← hpn] at c0 c1 ⊢
  have hpb := cell_ltk c0
  have CP : Hid (∀ wc, Keeps (fun _ => False) wA wc → wc.cell? ⟨pn, 0, none⟩ = some (.slice I n c) ∧ wc.cell? ⟨pn, 1, none⟩ = some (.slice E m d)) := Lib.hid fun wc h => ⟨(h.cell hpb (fun h => h)).trans c0, (h.cell hpb (fun h => h)).trans c1⟩
  have HPN := Lib.hid hpn
  clear hwA kA c0 c1 hpn hpb HI HE
  go_loopw [24] (fun s24 wr => ∃ (i : Nat), i ≤ n ∧ s24 = .int .i64 i ∧ (∀ k, k < i → mayI (L.getD k default) = true) ∧ Keeps (fun _ => False) wA wr) (fun s24 _ => n + 1 - (intOf s24).toNat)
  case atStart => exact ⟨0, Nat.zero_le _, rfl, fun k h => by omega, Keeps.refl _ _⟩
  case round =>
    obtain ⟨i, hin, rfl, hmay, kr⟩ := hrel
    have KR := Lib.hid kr
    have HMAY := Lib.hid hmay
    clear kr hmay
    by_cases h1 : i < n
    · have h1I : (i : Int) < (n : Int) := by omega
      have h1d : decide ((i : Int) < (n : Int)) = true := decide_eq_true h1I
      have hi0 : (0 : Int) ≤ (i : Int) := by omega
      obtain ⟨bi, oi, rfl, hbi, hci⟩ := HIA.out.cellsAt (i := i) (by rw [← HN.out]; exact h1)
      obtain ⟨x, hx⟩ : ∃ x : Ins, x = L.getD i default := ⟨_, rfl⟩
      have hxm : x ∈ L := by rw [hx]; simp [List.getD, show i < L.length by rw [← HN.out]; exact h1]
      obtain ⟨ok0, ok1, ok2⟩ := HOK.out x hxm
      rw [← hx] at hci
      obtain ⟨d0, d1, d2, d3⟩ := hci wr (KR.out.block bi hbi (fun h => h))
      have hbi2 := cell_ltk d0
      have MC : Hid (∀ o, Calls Tryd.prog 33 #[.agg #[.int .i64 x.o, .int .i64 x.a, .int .i64 x.b, .string x.s]] (wr.alloc o) fun e w' => e = .returned (.bool (mayI x)) ∧ Keeps (fun _ => False) wr w') := Lib.hid fun o => (may_any x.o x.a x.b x.s ok0 ok1 _ (HW.out.keep (HA.out.trans (KR.out.alloc o) (fun _ _ h => h)))).mono fun e w' h => ⟨h.1, ((Keeps.refl _ _).alloc o).trans h.2 (fun _ _ h => h)⟩
      obtain ⟨q, hq⟩ : ∃ q, q = mayI x := ⟨_, rfl⟩
      rw [← hq] at MC
      have HQ := Lib.hid hq
      have HX := Lib.hid hx
      have HXM := Lib.hid hxm
      clear hci hx hxm hq ok0 ok1 ok2
      go_wp2_with fail
      refine (MC.out _).mono ?_
      rintro e w2 ⟨rfl, k2⟩
      have K2 := Lib.hid (KR.out.trans k2 (fun _ _ h => h))
      clear k2 MC
      cases q with
      | true =>
        have HN2 : Hid (∀ k, k < i + 1 → mayI (L.getD k default) = true) := Lib.hid fun k hk => by
          rcases Nat.lt_or_ge k i with h | h
          · exact HMAY.out k h
          · obtain rfl : k = i := by omega
            rw [← HX.out, ← HQ.out]
        go_wp2
        go_roundw
        case rel => exact ⟨i + 1, by omega, by go_num, HN2.out, K2.out⟩
        case measure => simp [intOf]; omega
      | false =>
        have HF := Lib.hid (HBAD.out (.inl ⟨x, HXM.out, HQ.out.symm⟩) w2 (HA.out.trans K2.out (fun _ _ h => h)))
        go_wp2
        go_ret2
        exact HF.out
    · obtain rfl : i = n := by omega
      have h1d : decide ((i : Int) < (i : Int)) = false := decide_eq_false (by omega)
      obtain ⟨c0, c1⟩ := CP.out wr KR.out
      have hpw := cell_ltk c0
      have hall : ∀ x ∈ L, mayI x = true := fun x hx => by
        obtain ⟨k, hk, e⟩ := List.mem_iff_getElem.1 hx
        have := HMAY.out k (by rw [HN.out]; exact hk)
        rw [show L.getD k default = x by rw [← e]; simp [List.getD, hk]] at this
        exact this
      have HALL := Lib.hid hall
      clear hall HMAY
      go_wp2_with fail
      have ob : OutB (wr.alloc (.cells #[.int .u8 (m : Int)] 5)) (.slice (some ⟨wr.heap.size, 0, none⟩) 1 1) [(m : Int)] := World.ownsRow_lit wr #[.int .u8 (m : Int)] 1 (Nat.zero_le _) (by decide) rfl
      have gb : Grows wr (.slice none 0 0) (wr.alloc (.cells #[.int .u8 (m : Int)] 5)) (.slice (some ⟨wr.heap.size, 0, none⟩) 1 1) := by
        refine ⟨(Keeps.refl _ _).alloc _, fun g hg => .inr ?_⟩
        have : wr.heap.size = g := by simpa [Value.ownBlock] using hg
        omega
      have OB := Lib.hid ob
      have GB := Lib.hid gb
      obtain ⟨w9, rfl⟩ : ∃ w9, w9 = wr := ⟨_, rfl⟩
      clear ob gb c0 c1 hpw
      go_loopw [6, 40] (fun s6 s40 wr => ∃ (j : Nat), j ≤ m ∧ s40 = .int .i64 j ∧ (∀ k, k < j → ¬ (Z.getD k 0 < 0 ∨ (i : Int) < Z.getD k 0)) ∧ OutB wr s6 ([(m : Int)] ++ (Z.take j).flatMap bytes8) ∧ Grows w9 (.slice none 0 0) wr s6) (fun _ s40 _ => m + 1 - (intOf s40).toNat)
      case atStart => exact ⟨0, Nat.zero_le _, rfl, fun k h => by omega, OB.out, GB.out⟩
      case round =>
        obtain ⟨j, hj, rfl, hgo, ho, hg⟩ := hrel
        have HGO := Lib.hid hgo
        have HO := Lib.hid ho
        have HG := Lib.hid hg
        have kw : Keeps (fun _ => False) wA wr := KR.out.trans hg.keeps (fun _ _ h => h)
        have KW := Lib.hid kw
        obtain ⟨c0, c1⟩ := CP.out wr kw
        have hflen : ∀ (l : List Int), (l.flatMap bytes8).length = l.length * 8 := fun l => by
          induction l with
          | nil => rfl
          | cons a l ih => rw [List.flatMap_cons, List.length_append, ih, List.length_cons, show (bytes8 a).length = 8 from rfl]; omega
        have HFL := Lib.hid hflen
        clear hgo ho hg kw hflen
        by_cases h2 : j < m
        · have h2I : (j : Int) < (m : Int) := by omega
          have h2d : decide ((j : Int) < (m : Int)) = true := decide_eq_true h2I
          have hj0 : (0 : Int) ≤ (j : Int) := by omega
          obtain ⟨be, oe, rfl, hce⟩ := (HEA.out.keep KW.out) (by rw [← HM.out]; omega)
          have e0 := hce j (by rw [← HM.out]; exact h2)
          obtain ⟨a, ha⟩ : ∃ a : Int, a = Z.getD j 0 := ⟨_, rfl⟩
          have ham : a ∈ Z := by rw [ha]; simp [List.getD, show j < Z.length by rw [← HM.out]; exact h2]
          obtain ⟨az0, az1⟩ := HZO.out a ham
          rw [← ha] at e0
          have HAe := Lib.hid ha
          have HAM := Lib.hid ham
          clear hce ha ham
          by_cases hn : a < 0
          · have hnd : decide (a < 0) = true := decide_eq_true hn
            have HF := Lib.hid (HBAD.out (.inr ⟨a, HAM.out, .inl hn⟩) wr (HA.out.trans KW.out (fun _ _ h => h)))
            go_wp2
            go_ret2
            exact HF.out
          · have hnd : decide (a < 0) = false := decide_eq_false hn
            by_cases hb : (i : Int) < a
            · have hbd : decide ((i : Int) < a) = true := decide_eq_true hb
              have HF := Lib.hid (HBAD.out (.inr ⟨a, HAM.out, .inr hb⟩) wr (HA.out.trans KW.out (fun _ _ h => h)))
              go_wp2
              go_ret2
              exact HF.out
            · have hbd : decide ((i : Int) < a) = false := decide_eq_false hb
              obtain ⟨v6, rfl⟩ : ∃ v, v = u6 := ⟨_, rfl⟩
              have NC := Lib.hid (number8_any v6 a _ (by rw [List.length_append, HFL.out, List.length_take]; show 1 + _ ≤ _; omega) wr HO.out)
              have HT : Hid ([(m : Int)] ++ (Z.take j).flatMap bytes8 ++ bytes8 a = [(m : Int)] ++ (Z.take (j + 1)).flatMap bytes8) := Lib.hid (by
                rw [List.take_succ_eq_append_getElem (by rw [← HM.out]; exact h2), List.flatMap_append, HAe.out]
                simp [List.getD, show j < Z.length by rw [← HM.out]; exact h2])
              have HG2 : Hid (∀ k, k < j + 1 → ¬ (Z.getD k 0 < 0 ∨ (i : Int) < Z.getD k 0)) := Lib.hid fun k hk => by
                rcases Nat.lt_or_ge k j with h | h
                · exact HGO.out k h
                · obtain rfl : k = j := by omega
                  rw [← HAe.out]
                  omega
              go_wp2_with fail
              refine NC.out.mono ?_
              rintro e w2 ⟨v7, rfl, o7, g7⟩
              have O7 := Lib.hid o7
              have G7 := Lib.hid (HG.out.trans g7)
              clear o7 g7 NC
              go_wp2
              go_roundw
              case rel => exact ⟨j + 1, by omega, by go_num, HG2.out, by rw [← HT.out]; exact O7.out, G7.out⟩
              case measure => simp [intOf]; omega
        · obtain rfl : j = m := by omega
          have h2d : decide ((j : Int) < (j : Int)) = false := decide_eq_false (by omega)
          obtain ⟨v6, rfl⟩ : ∃ v, v = u6 := ⟨_, rfl⟩
          have NC := Lib.hid (number8_any v6 (i : Int) _ (by rw [List.length_append, HFL.out, List.length_take]; show 1 + _ ≤ _; omega) wr HO.out)
          obtain ⟨PB, hPB⟩ : ∃ PB, PB = [(j : Int)] ++ (Z.take j).flatMap bytes8 ++ bytes8 (i : Int) := ⟨_, rfl⟩
          have hPL : PB.length ≤ 60 := by rw [hPB, List.length_append, List.length_append, HFL.out, List.length_take]; show 1 + _ + 8 ≤ _; omega
          have hput : PB ++ L.flatMap insB = putB L Z := by
            rw [hPB]
            unfold putB
            rw [← HN.out, ← HM.out, List.take_of_length_le (by rw [← HM.out]; exact Nat.le_refl _), show (j : Int) % 256 = j by omega]
          have hzok : ¬ ∃ a ∈ Z, a < 0 ∨ (i : Int) < a := by
            rintro ⟨a, ha, hb⟩
            obtain ⟨k, hk, e⟩ := List.mem_iff_getElem.1 ha
            have := HGO.out k (by rw [HM.out]; exact hk)
            rw [show Z.getD k 0 = a by rw [← e]; simp [List.getD, hk]] at this
            exact this hb
          have HPUT := Lib.hid hput
          have HZK := Lib.hid hzok
          rw [← hPB] at NC
          clear hPB hput hzok
          go_wp2_with fail
          refine NC.out.mono ?_
          rintro e w2 ⟨v7, rfl, o7, g7⟩
          have gg := HG.out.trans g7
          have kw2 : Keeps (fun _ => False) wA w2 := KR.out.trans gg.keeps (fun _ _ h => h)
          have O7 := Lib.hid o7
          have G7 := Lib.hid gg
          obtain ⟨c0, c1⟩ := CP.out w2 kw2
          have hpw := cell_ltk c0
          clear o7 g7 gg kw2 NC
          go_wp2_with fail
          obtain ⟨wy, rfl⟩ : ∃ wy, wy = wr := ⟨_, rfl⟩
          go_loopw [6, 65] (fun s6 s65 wr => ∃ (k : Nat), k ≤ i ∧ s65 = .int .i64 k ∧ OutB wr s6 (PB ++ (L.take k).flatMap insB) ∧ Grows w9 (.slice none 0 0) wr s6) (fun _ s65 _ => i + 1 - (intOf s65).toNat)
          case atStart => exact ⟨0, Nat.zero_le _, rfl, by simpa using O7.out, G7.out⟩
          case round =>
            obtain ⟨k, hk, rfl, ho, hg⟩ := hrel
            have kw : Keeps (fun _ => False) wA wr := KR.out.trans hg.keeps (fun _ _ h => h)
            have HO3 := Lib.hid ho
            have HG3 := Lib.hid hg
            have KW3 := Lib.hid kw
            clear ho hg kw c0 c1 hpw
            obtain ⟨v8, rfl⟩ : ∃ v, v = u6 := ⟨_, rfl⟩
            by_cases h3 : k < i
            · have h3I : (k : Int) < (i : Int) := by omega
              have h3d : decide ((k : Int) < (i : Int)) = true := decide_eq_true h3I
              have hk0 : (0 : Int) ≤ (k : Int) := by omega
              obtain ⟨bi, oi, rfl, hbi, hci⟩ := HIA.out.cellsAt (i := k) (by rw [← HN.out]; exact h3)
              obtain ⟨x, hx⟩ : ∃ x : Ins, x = L.getD k default := ⟨_, rfl⟩
              have hkl : k < L.length := by rw [← HN.out]; exact h3
              have hxm : x ∈ L := by rw [hx]; simp [List.getD, hkl]
              obtain ⟨ok0, ok1, ok2⟩ := HOK.out x hxm
              rw [← hx] at hci
              obtain ⟨d0, d1, d2, d3⟩ := hci wr (KW3.out.block bi hbi (fun h => h))
              have hbi2 := cell_ltk d0
              have hlen : (PB ++ (L.take k).flatMap insB).length ≤ 80000 := by
                have h1 := flat_le (L.take k) (fun y hy => HALL.out y (List.mem_of_mem_take hy))
                rw [List.length_take] at h1
                have h2 : min k L.length * 42 ≤ 1200 * 42 := Nat.mul_le_mul_right _ (by omega)
                rw [List.length_append]
                omega
              have HT : Hid (PB ++ (L.take k).flatMap insB ++ insB x = PB ++ (L.take (k + 1)).flatMap insB) := Lib.hid (by
                rw [List.take_succ_eq_append_getElem hkl, List.flatMap_append, hx]
                simp [List.getD, hkl])
              have IC : Hid (∀ o, Calls Tryd.prog 49 #[v8, .agg #[.int .i64 x.o, .int .i64 x.a, .int .i64 x.b, .string x.s]] (wr.alloc o) fun e w' => ∃ v', e = .returned v' ∧ OutB w' v' (PB ++ (L.take k).flatMap insB ++ insB x) ∧ Grows wr v8 w' v') := Lib.hid fun o =>
                (instr_any v8 x ok0 ok1 ok2 _ hlen (wr.alloc o) (own_of1 HO3.out ((Keeps.refl _ _).alloc o))).mono fun e w' ⟨v', h1, h2, h4⟩ => ⟨v', h1, h2, (Grows.of ((Keeps.refl _ _).alloc o)).trans h4⟩
              clear hci hx hxm ok0 ok1 ok2 hlen hkl
              go_wp2_with fail
              refine (IC.out _).mono ?_
              rintro e w3 ⟨v9, rfl, o9, g9⟩
              have O9 := Lib.hid o9
              have G9 := Lib.hid (HG3.out.trans g9)
              clear o9 g9 IC
              go_wp2
              go_roundw
              case rel => exact ⟨k + 1, by omega, by go_num, by rw [← HT.out]; exact O9.out, G9.out⟩
              case measure => simp [intOf]; omega
            · obtain rfl : k = i := by omega
              have h3d : decide ((k : Int) < (k : Int)) = false := decide_eq_false (by omega)
              have hfin : PutE L Z w (.returned (.tuple #[v8, .int .i64 0])) wr := by
                refine ⟨?_, HA.out.trans KW3.out (fun _ _ h => h)⟩
                rw [← HN.out, ← HM.out, if_neg (by omega), if_neg]
                · refine ⟨v8, rfl, ?_, fun g hg => ?_⟩
                  · have h := HO3.out
                    rw [List.take_of_length_le (by rw [← HN.out]; exact Nat.le_refl _), HPUT.out] at h
                    exact h
                  · rcases HG3.out.2 g hg with e | e
                    · cases e
                    · have h1 := (HA.out.trans KR.out (fun _ _ h => h)).size
                      omega
                · rintro (⟨x, hx, e⟩ | h)
                  · rw [HALL.out x hx] at e
                    cases e
                  · exact HZK.out h
              have HF := Lib.hid hfin
              clear hfin
              go_wp2
              go_ret2
              exact HF.out

end Go.Proofs.YtoombjbpblighaaDoor
