/-
  Layer 8: the document's Put. Written by an AI agent.
-/
import Derived.Test.YtoombjbpblighaaDoorReA
import Derived.Deep.QuietTactic
import Derived.BigQuiet
import Derived.Deep.RegionHeld
namespace Go.Proofs.YtoombjbpblighaaDoor
open Go Go.RowKit Go.Shelf
set_option linter.unusedVariables false
set_option linter.unusedSimpArgs false

theorem step_append_bytes {ops : Array Oper} {o : Oper} {a : Act} {w : World} {K : Act → World → Prop} {Q : Exit → Act → World → Prop} {E : Prop} (hgd : o.guard = none) (s x : Operand)
    (ho : o.op = .call { callee := .builtin .append, args := #[s, x], argTypes := #[42, 42] }) (hty : o.type = 42)
    (v : Value) (l0 : List Int) (hs : a.eval s = v) (hown : OutB w v l0) (R : Nat) (A : Option Addr) (m c : Nat) (l : List Int) (hx : a.eval x = .slice A m c) (hm : m = l.length) (hr : RdB w R A l) (h63 : l0.length + m ≤ 1000000)
    (h : ∀ v' w', OutB w' v' (l0 ++ l) → Grows w v w' v' → K (a.put o.dst v') w') :
    if Region.wanted o (yielded ops a.tmps) = true then Oper.wp Tryd.prog o a w K Q else E := by
  have hw : Region.wanted o (yielded ops a.tmps) = true := by simp [Region.wanted, hgd]
  rw [if_pos hw]
  obtain ⟨v', w', hrun, q1, q2⟩ := run_append_bytes w v l0 hown R A m c l hm hr h63
  unfold Oper.wp execOp
  simp only [ho, hty, resolve, invoke, builtin, Sem.run_bind, Sem.run_pure, Result.andThen_ok, List.map_toArray, List.map_cons, List.map_nil, hs, hx, hrun]
  exact h v' w' q1 q2
theorem step_append_str {ops : Array Oper} {o : Oper} {a : Act} {w : World} {K : Act → World → Prop} {Q : Exit → Act → World → Prop} {E : Prop} (hgd : o.guard = none) (s x : Operand)
    (ho : o.op = .call { callee := .builtin .append, args := #[s, x], argTypes := #[42, 9] }) (hty : o.type = 42)
    (v : Value) (l0 : List Int) (h0 : 0 < l0.length) (hs : a.eval s = v) (hown : OutB w v l0) (t : ByteArray) (hx : a.eval x = .string t) (h63 : l0.length + t.size ≤ 1000000)
    (h : ∀ v' w', OutB w' v' (l0 ++ strI t) → Grows w v w' v' → K (a.put o.dst v') w') :
    if Region.wanted o (yielded ops a.tmps) = true then Oper.wp Tryd.prog o a w K Q else E := by
  have hw : Region.wanted o (yielded ops a.tmps) = true := by simp [Region.wanted, hgd]
  rw [if_pos hw]
  obtain ⟨i0, hi, hz0, hz1, hz2⟩ := info_parts info5
  obtain ⟨v', w', hrun, q1, q2, q3⟩ := run_append_strk (P := Tryd.prog) w 42 9 42 5 i0 Tryd.underlying42 Tryd.underlying9 hi hz0 hz1 hz2 v l0.length h0 (valB l0) hown t (by omega)
  unfold Oper.wp execOp
  simp only [ho, hty, resolve, invoke, builtin, Sem.run_bind, Sem.run_pure, Result.andThen_ok, List.map_toArray, List.map_cons, List.map_nil, hs, hx, hrun]
  obtain ⟨r1, r2⟩ := outB_more (L := l0) (strI t) (m := t.size) (by rw [strI_length]) (Keeps.refl (fun _ => False) w) (by rw [strI_cells]; exact q1) q2 q3
  exact h v' w' r1 r2
theorem rd_new (w : World) (z : Int) : RdB (w.alloc (.cells #[.int .u8 z] 5)) (w.heap.size + 1) (some ⟨w.heap.size, 0, none⟩) [z] := fun _ => ⟨w.heap.size, 0, rfl, Nat.lt_succ_self _, fun j hj => by
  obtain rfl : j = 0 := (by simp at hj; omega)
  simp⟩
/-- Bytes of one's own, since a world. -/
def GB (wA wr : World) (v : Value) (L : List Int) : Prop := OutB wr v L ∧ (∀ g, v.ownBlock = some g → wA.heap.size ≤ g) ∧ Keeps (fun _ => False) wA wr
theorem GB.more {wA wr w1 w5 : World} {v v5 : Value} {L M : List Int} (h : GB wA wr v L) (k : Keeps (fun _ => False) wr w1) (o5 : OutB w5 v5 M) (g5 : Grows w1 v w5 v5) : GB wA w5 v5 M := by
  obtain ⟨h1, h2, h3⟩ := h
  refine ⟨o5, fun g hg => ?_, (h3.trans k (fun _ _ h => h)).trans g5.1 (fun p hp e => by have := h2 p e.symm; omega)⟩
  rcases g5.2 g hg with e | e
  · exact h2 g e.symm
  · have := h3.size
    have := k.size
    omega

set_option maxRecDepth 100000 in
set_option maxHeartbeats 16000000 in
theorem rput_code (I : Option Addr) (c : Nat) (L : List Ins) (E : Option Addr) (d : Nat) (Z : List Int) (hL : L.length ≤ 100000) (hZ : Z.length ≤ 100000) (hok : ∀ x ∈ L, InsOk x) (w : World) (hI : RdI w I L) (hE : RdZ w E Z) :
    Calls Tryd.prog 29 #[.agg #[.slice I L.length c, .slice E Z.length d]] w (PutE L Z w) := by
  obtain ⟨n, hn⟩ : ∃ n, n = L.length := ⟨_, rfl⟩
  obtain ⟨m, hm⟩ : ∃ m, m = Z.length := ⟨_, rfl⟩
  rw [← hn] at hL ⊢
  rw [← hm] at hZ ⊢
  have HN := Lib.hid hn
  have HM := Lib.hid hm
  have HI := Lib.hid hI
  have HE := Lib.hid hE
  have HOK := Lib.hid hok
  clear hn hm hI hE hok
  have hfb : 1200 < n ∨ 6 < m → ∀ o, PutE L Z w (.returned (.tuple #[.slice none 0 0, .int .i64 4])) (w.alloc o) := fun h o => ⟨by rw [← HN.out, ← HM.out, if_pos h], (Keeps.refl _ _).alloc _⟩
  have HFB := Lib.hid hfb
  clear hfb
  by_cases hb1 : 1200 < n
  · have hb1I : (1200 : Int) < (n : Int) := by omega
    have hb1d : decide ((1200 : Int) < (n : Int)) = true := decide_eq_true hb1I
    have HF := Lib.hid (HFB.out (.inl hb1))
    clear hb1
    go_enter Tryd.func29, Tryd.ntmps29
    go_wp2
    go_ret2
    exact HF.out _
  have hb1I : ¬ (1200 : Int) < (n : Int) := by omega
  have hb1d : decide ((1200 : Int) < (n : Int)) = false := decide_eq_false hb1I
  by_cases hb2 : 6 < m
  · have hb2I : (6 : Int) < (m : Int) := by omega
    have hb2d : decide ((6 : Int) < (m : Int)) = true := decide_eq_true hb2I
    have HF := Lib.hid (HFB.out (.inr hb2))
    clear hb2
    go_enter Tryd.func29, Tryd.ntmps29
    go_wp2
    go_ret2
    exact HF.out _
  have hb2I : ¬ (6 : Int) < (m : Int) := by omega
  have hb2d : decide ((6 : Int) < (m : Int)) = false := decide_eq_false hb2I
  have hbad : ((∃ x ∈ L, mayI x = false) ∨ (∃ a ∈ Z, a < 0 ∨ (n : Int) < a)) → ∀ w', Keeps (fun _ => False) w w' → PutE L Z w (.returned (.tuple #[.slice none 0 0, .int .i64 1])) w' := fun h w' k => ⟨by rw [← HN.out, ← HM.out, if_neg (by omega), if_pos h], k⟩
  have HBAD := Lib.hid hbad
  clear hbad HFB
  go_enter Tryd.func29, Tryd.ntmps29
  go_upto_region 3 with fail
  generalize hwA : w.alloc _ = wA
  have kA : Keeps (fun _ => False) w wA := by rw [← hwA]; exact (Keeps.refl _ _).alloc _
  have c0 : wA.cell? ⟨w.heap.size, 0, none⟩ = some (.slice I n c) := by rw [← hwA]; simp
  have c1 : wA.cell? ⟨w.heap.size, 1, none⟩ = some (.slice E m d) := by rw [← hwA]; simp
  have HA := Lib.hid kA
  have HIA := Lib.hid (HI.out.keep kA)
  have HEA := Lib.hid (HE.out.keep kA)
  obtain ⟨pn, hpn⟩ : ∃ pn, pn = w.heap.size := ⟨_, rfl⟩
  rw [← hpn] at c0 c1 ⊢
  have hpb := cell_ltk c0
  have CP : Hid (∀ wc, Keeps (fun _ => False) wA wc → wc.cell? ⟨pn, 0, none⟩ = some (.slice I n c) ∧ wc.cell? ⟨pn, 1, none⟩ = some (.slice E m d) ∧ pn < wc.heap.size) := Lib.hid fun wc h => ⟨(h.cell hpb (fun h => h)).trans c0, (h.cell hpb (fun h => h)).trans c1, Nat.lt_of_lt_of_le hpb h.size⟩
  have HPN := Lib.hid hpn
  clear hwA kA hpn HI HE
  have hb256 : (m : Int) % 256 = (m : Int) := by omega
  go_wp2_with fail
  have ob : GB wA (wA.alloc (.cells #[.int .u8 (m : Int)] 5)) (.slice (some ⟨wA.heap.size, 0, none⟩) 1 1) [(m : Int)] := ⟨World.ownsRow_lit wA #[.int .u8 (m : Int)] 1 (Nat.zero_le _) (by decide) rfl, fun g hg => by
    have : wA.heap.size = g := by simpa [Value.ownBlock] using hg
    omega, (Keeps.refl _ _).alloc _⟩
  have OB := Lib.hid ob
  obtain ⟨v4, hv4⟩ : ∃ v4, v4 = Value.slice (some ⟨wA.heap.size, 0, none⟩) 1 1 := ⟨_, rfl⟩
  rw [← hv4] at OB ⊢
  clear ob c0 c1 hpb hv4 hb256
  go_wp2_with fail
  go_loopw [4, 5] (fun s4 s5 wr => ∃ (j : Nat), j ≤ m ∧ s5 = .int .i64 j ∧ (∀ k, k < j → ¬ (Z.getD k 0 < 0 ∨ (n : Int) < Z.getD k 0)) ∧ GB wA wr s4 ([(m : Int)] ++ (Z.take j).flatMap bytes8)) (fun _ s5 _ => m + 1 - (intOf s5).toNat)
  case atStart => exact ⟨0, Nat.zero_le _, rfl, fun k h => by omega, by simpa using OB.out⟩
  case round =>
    obtain ⟨j, hj, rfl, hgo, ho⟩ := hrel
    have HGO := Lib.hid hgo
    have HO := Lib.hid ho
    have KW := Lib.hid ho.2.2
    obtain ⟨c0, c1, hpw⟩ := CP.out wr ho.2.2
    have hflen : ∀ (l : List Int), (l.flatMap bytes8).length = l.length * 8 := fun l => by
      induction l with
      | nil => rfl
      | cons a l ih => rw [List.flatMap_cons, List.length_append, ih, List.length_cons, show (bytes8 a).length = 8 from rfl]; omega
    have HFL := Lib.hid hflen
    clear hgo ho hflen
    obtain ⟨x4, rfl⟩ : ∃ v, v = u4 := ⟨_, rfl⟩
    by_cases h2 : j < m
    · have h2I : (j : Int) < (m : Int) := by omega
      have h2d : decide ((j : Int) < (m : Int)) = true := decide_eq_true h2I
      have hj0 : (0 : Int) ≤ (j : Int) := by omega
      obtain ⟨be, oe, rfl, hce⟩ := (HEA.out.keep KW.out) (by rw [← HM.out]; omega)
      have e0 := hce j (by rw [← HM.out]; exact h2)
      obtain ⟨a, ha⟩ : ∃ a : Int, a = Z.getD j 0 := ⟨_, rfl⟩
      have ham : a ∈ Z := by rw [ha]; simp [List.getD, show j < Z.length by rw [← HM.out]; exact h2]
      rw [← ha] at e0
      have HAe := Lib.hid ha
      have HAM := Lib.hid ham
      clear hce ha ham
      by_cases hn : a < 0
      · have hnd : decide (a < 0) = true := decide_eq_true hn
        have HF : Hid (∀ w', Keeps (fun _ => False) wr w' → PutE L Z w (.returned (.tuple #[.slice none 0 0, .int .i64 1])) w') := Lib.hid (fun w' k => HBAD.out (.inr ⟨a, HAM.out, .inl hn⟩) w' ((HA.out.trans KW.out (fun _ _ h => h)).trans k (fun _ _ h => h)))
        go_wp2
        go_quiet (fail)
        go_wp2
        go_ret2
        exact HF.out _ (drew_keeps _ _)
      · have hnd : decide (a < 0) = false := decide_eq_false hn
        by_cases hb : (n : Int) < a
        · have hbd : decide ((n : Int) < a) = true := decide_eq_true hb
          have HF : Hid (∀ w', Keeps (fun _ => False) wr w' → PutE L Z w (.returned (.tuple #[.slice none 0 0, .int .i64 1])) w') := Lib.hid (fun w' k => HBAD.out (.inr ⟨a, HAM.out, .inr hb⟩) w' ((HA.out.trans KW.out (fun _ _ h => h)).trans k (fun _ _ h => h)))
          go_wp2
          go_quiet (fail)
          go_wp2
          go_ret2
          exact HF.out _ (drew_keeps _ _)
        · have hbd : decide ((n : Int) < a) = false := decide_eq_false hb
          have HT : Hid ([(m : Int)] ++ (Z.take j).flatMap bytes8 ++ bytes8 a = [(m : Int)] ++ (Z.take (j + 1)).flatMap bytes8) := Lib.hid (by
            rw [List.take_succ_eq_append_getElem (by rw [← HM.out]; exact h2), List.flatMap_append, HAe.out]
            simp [List.getD, show j < Z.length by rw [← HM.out]; exact h2])
          have HG2 : Hid (∀ k, k < j + 1 → ¬ (Z.getD k 0 < 0 ∨ (n : Int) < Z.getD k 0)) := Lib.hid fun k hk => by
            rcases Nat.lt_or_ge k j with h | h
            · exact HGO.out k h
            · obtain rfl : k = j := by omega
              rw [← HAe.out]
              omega
          obtain ⟨LL, hLL⟩ : ∃ LL, LL = [(m : Int)] ++ (Z.take j).flatMap bytes8 := ⟨_, rfl⟩
          have hLl : LL.length ≤ 60 := by rw [hLL, List.length_append, HFL.out, List.length_take]; show 1 + _ ≤ _; omega
          rw [← hLL] at HT HO
          clear hLL
          go_wp2
          go_quiet (fail)
          go_wp2_with fail
          refine (eight_any a _).mono ?_
          rintro e w2 ⟨v2, rfl, o2, b2, k2⟩
          obtain ⟨A2, c2, rfl⟩ := own_formk o2
          obtain ⟨hr2, _, _⟩ := own_rdB o2 rfl
          have h8 : (bytes8 a).length = 8 := rfl
          rw [h8] at o2 b2 ⊢
          have HR2 := Lib.hid hr2
          have K2 := Lib.hid k2
          clear o2 b2 k2 hr2 h8
          go_wp2_with (at_builtin
                       refine wpList_append_bytes rfl (.tmp 48) (.tmp 54) rfl rfl x4 LL (by rfl) (own_of1 HO.out.1 ((drew_keeps wr _).trans K2.out (fun _ _ h => h))) w2.heap.size A2 8 c2 (bytes8 a) (by rfl) rfl HR2.out (by omega) ?_
                       intro v5 w5 o5 g5
                       have HO5 := Lib.hid (HO.out.more ((drew_keeps wr _).trans K2.out (fun _ _ h => h)) o5 g5)
                       clear o5 g5 HR2 K2)
          go_roundw
          case rel => exact ⟨j + 1, by omega, by go_num, HG2.out, by rw [← HT.out]; exact HO5.out⟩
          case measure => simp [intOf]; omega
    · obtain rfl : j = m := by omega
      have h2d : decide ((j : Int) < (j : Int)) = false := decide_eq_false (by omega)
      obtain ⟨LL, hLL⟩ : ∃ LL, LL = [(j : Int)] ++ (Z.take j).flatMap bytes8 := ⟨_, rfl⟩
      have hLl : LL.length ≤ 60 := by rw [hLL, List.length_append, HFL.out, List.length_take]; show 1 + _ ≤ _; omega
      obtain ⟨PB, hPB⟩ : ∃ PB, PB = LL ++ bytes8 (n : Int) := ⟨_, rfl⟩
      have hPL : PB.length ≤ 70 := by rw [hPB, List.length_append]; show _ + 8 ≤ _; omega
      have hput : PB ++ L.flatMap insB = putB L Z := by
        rw [hPB, hLL]
        unfold putB
        rw [← HN.out, ← HM.out, List.take_of_length_le (by rw [← HM.out]; exact Nat.le_refl _), show (j : Int) % 256 = j by omega]
      have hzok : ¬ ∃ a ∈ Z, a < 0 ∨ (n : Int) < a := by
        rintro ⟨a, ha, hb⟩
        obtain ⟨k, hk, e⟩ := List.mem_iff_getElem.1 ha
        have := HGO.out k (by rw [HM.out]; exact hk)
        rw [show Z.getD k 0 = a by rw [← e]; simp [List.getD, hk]] at this
        exact this hb
      have HPUT := Lib.hid hput
      have HZK := Lib.hid hzok
      have HPBE := Lib.hid hPB
      rw [← hLL] at HO
      clear hLL hPB hput hzok HGO
      go_wp2_with fail
      refine (eight_any (n : Int) _).mono ?_
      rintro e w2 ⟨v2, rfl, o2, b2, k2⟩
      obtain ⟨A2, c2, rfl⟩ := own_formk o2
      obtain ⟨hr2, _, _⟩ := own_rdB o2 rfl
      have h8 : (bytes8 (n : Int)).length = 8 := rfl
      rw [h8] at o2 b2 ⊢
      have HR2 := Lib.hid hr2
      have K2 := Lib.hid k2
      clear o2 b2 k2 hr2 h8
      go_upto_region 11 with (
                   at_builtin
                   refine wpList_append_bytes rfl (.tmp 56) (.tmp 60) rfl rfl x4 LL (by rfl) (own_of1 HO.out.1 K2.out) w2.heap.size A2 8 c2 (bytes8 (n : Int)) (by rfl) rfl HR2.out (by omega) ?_
                   intro v5 w5 o5 g5
                   have HO5 := Lib.hid (HO.out.more K2.out o5 g5)
                   clear o5 g5 HR2 K2)
      rw [← HPBE.out] at HO5
      clear c0 c1 hpw HO
      obtain ⟨c0, c1, hpw⟩ := CP.out w5 HO5.out.2.2
      go_wp2_with fail
      obtain ⟨wy, rfl⟩ : ∃ wy, wy = wr := ⟨_, rfl⟩
      clear c0 c1 hpw
      go_loopw [4, 6, 7, 8] (fun s4 s6 s7 s8 wr => ∃ (k : Nat), k ≤ n ∧ s6 = .int .i64 k ∧ (∀ i, i < k → mayI (L.getD i default) = true) ∧ GB wA wr s4 (PB ++ (L.take k).flatMap insB)) (fun _ s6 _ _ _ => n + 1 - (intOf s6).toNat)
      case atStart => exact ⟨0, Nat.zero_le _, rfl, fun i h => by omega, by simpa using HO5.out⟩
      case round =>
        obtain ⟨k, hk, rfl, hall, ho⟩ := hrel
        have HALL := Lib.hid hall
        have HO := Lib.hid ho
        obtain ⟨c0, c1, hpw⟩ := CP.out wr ho.2.2
        clear hall ho
        obtain ⟨x4, rfl⟩ : ∃ v, v = u4 := ⟨_, rfl⟩
        by_cases h3 : k < n
        · have h3I : (k : Int) < (n : Int) := by omega
          have h3d : decide ((k : Int) < (n : Int)) = true := decide_eq_true h3I
          have hk0 : (0 : Int) ≤ (k : Int) := by omega
          obtain ⟨bi, oi, rfl, hbi, hci⟩ := HIA.out.cellsAt (i := k) (by rw [← HN.out]; exact h3)
          obtain ⟨x, hx⟩ : ∃ x : Ins, x = L.getD k default := ⟨_, rfl⟩
          have hkl : k < L.length := by rw [← HN.out]; exact h3
          have hxm : x ∈ L := by rw [hx]; simp [List.getD, hkl]
          obtain ⟨ok0, ok1, ok2⟩ := HOK.out x hxm
          rw [← hx] at hci
          obtain ⟨d0, d1, d2, d3⟩ := hci wr (HO.out.2.2.block bi hbi (fun h => h))
          have hbi2 := cell_ltk d0
          have HT : Hid (PB ++ (L.take k).flatMap insB ++ insB x = PB ++ (L.take (k + 1)).flatMap insB) := Lib.hid (by
            rw [List.take_succ_eq_append_getElem hkl, List.flatMap_append, hx]
            simp [List.getD, hkl])
          have HX := Lib.hid hx
          have HXM := Lib.hid hxm
          obtain ⟨LL, hLL⟩ : ∃ LL, LL = PB ++ (L.take k).flatMap insB := ⟨_, rfl⟩
          have hLl : LL.length ≤ 80000 := by
            have h1 := flat_le (L.take k) (fun y hy => by
              obtain ⟨i, hi, e⟩ := List.mem_iff_getElem.1 hy
              rw [List.length_take] at hi
              have := HALL.out i (by omega)
              have e2 : L.getD i default = y := by rw [← e, List.getElem_take]; simp [List.getD, show i < L.length by omega]
              rw [e2] at this
              exact this)
            rw [List.length_take] at h1
            have h2 : min k L.length * 42 ≤ 1200 * 42 := Nat.mul_le_mul_right _ (by omega)
            rw [hLL, List.length_append]
            omega
          rw [← hLL] at HT HO
          clear hci hx hxm hkl hLL
          go_upto_region 15 with fail
          obtain ⟨q0, q1, q2, q3⟩ := four_cells wr x
          generalize hwX : wr.alloc _ = wX
          rw [hwX] at q0 q1 q2 q3
          have kX : Keeps (fun _ => False) wr wX := by rw [← hwX]; exact (Keeps.refl _ _).alloc _
          obtain ⟨PX, hPX⟩ : ∃ PX, PX = wr.heap.size := ⟨_, rfl⟩
          rw [← hPX] at q0 q1 q2 q3 ⊢
          have hvw : ¬ some PX = x4.ownBlock := fun e => by have := own_ltk HO.out.1 e.symm; omega
          have hpx := cell_ltk q0
          have KX := Lib.hid kX
          have CX : Hid (∀ wc u, Grows wX x4 wc u → wc.cell? ⟨PX, 0, none⟩ = some (.int .i64 x.o) ∧ wc.cell? ⟨PX, 1, none⟩ = some (.int .i64 x.a) ∧ wc.cell? ⟨PX, 2, none⟩ = some (.int .i64 x.b) ∧ wc.cell? ⟨PX, 3, none⟩ = some (.string x.s) ∧ PX < wc.heap.size) := Lib.hid fun wc u h =>
            ⟨(h.1.cell hpx hvw).trans q0, (h.1.cell hpx hvw).trans q1, (h.1.cell hpx hvw).trans q2, (h.1.cell hpx hvw).trans q3, Nat.lt_of_lt_of_le hpx h.1.size⟩
          have O0 := Lib.hid (own_of1 HO.out.1 kX)
          have G0 := Lib.hid (Grows.refl wX x4)
          have MC := Lib.hid (rmay_any x.o x.a x.b x.s wX)
          obtain ⟨mq, hmq⟩ : ∃ q, q = mayN x.o x.a x.b x.s := ⟨_, rfl⟩
          rw [← hmq] at MC
          have HMQ : Hid (mq = mayI x) := Lib.hid hmq
          clear hwX kX hPX hmq hvw d0 d1 d2 d3 hbi hbi2 c0 c1 hpw
          go_wp2_with fail
          refine MC.out.mono ?_
          rintro e w1 ⟨rfl, k1⟩
          have O1 := Lib.hid (show OutB w1 x4 LL from own_of1 O0.out k1)
          have G1 := Lib.hid (G0.out.trans (Grows.of k1))
          clear k1 q0 q1 q2 q3 O0 G0 MC hpx
          cases mq with
          | false =>
            have HF := Lib.hid (HBAD.out (.inl ⟨x, HXM.out, HMQ.out.symm⟩) w1 (((HA.out.trans HO.out.2.2 (fun _ _ h => h)).trans KX.out (fun _ _ h => h)).trans G1.out.1 (fun p hp e => by have h9 := HO.out.2.1 p e.symm; have h8 := HA.out.size; omega)))
            go_wp2
            go_ret2
            exact HF.out
          | true =>
            have hfour := has_four x.o
            have HIB : Hid (insB x = [x.o % 256] ++ (if hasN x.o = 1 ∨ hasN x.o = 3 then bytes8 x.a else []) ++ (if hasN x.o = 3 then bytes8 x.b else []) ++ (if hasN x.o = 4 then (x.s.size : Int) % 256 :: strI x.s else [])) := Lib.hid rfl
            have HALL2 : Hid (∀ i, i < k + 1 → mayI (L.getD i default) = true) := Lib.hid fun i hi => by
              rcases Nat.lt_or_ge i k with h | h
              · exact HALL.out i h
              · obtain rfl : i = k := by omega
                rw [← HX.out]
                exact HMQ.out.symm
            have ea : hA x.o = decide (hasN x.o = 1 ∨ hasN x.o = 3) := rfl
            have eb : hB x.o = decide (hasN x.o = 3) := rfl
            have es : hS x.o = decide (hasN x.o = 4) := rfl
            have AC : Hid (∀ w, Calls Tryd.prog 51 #[.int .i64 x.o] w fun e w' => e = .returned (.bool (hA x.o)) ∧ Keeps (fun _ => False) w w') := fun w => hasA_any x.o w
            have BC : Hid (∀ w, Calls Tryd.prog 52 #[.int .i64 x.o] w fun e w' => e = .returned (.bool (hB x.o)) ∧ w = w') := fun w => hasB_any x.o w
            have SC : Hid (∀ w, Calls Tryd.prog 53 #[.int .i64 x.o] w fun e w' => e = .returned (.bool (hS x.o)) ∧ w = w') := fun w => hasS_any x.o w
            obtain ⟨hv, hhv⟩ : ∃ hv, hv = hasN x.o := ⟨_, rfl⟩
            rw [← hhv] at hfour ea eb es HIB
            rw [ea] at AC
            rw [eb] at BC
            rw [es] at SC
            obtain ⟨y, hy⟩ : ∃ y, y = x.o % 256 := ⟨_, rfl⟩
            rw [← hy] at HIB
            have HY := Lib.hid hy
            clear ea eb es hhv hy HBAD HALL HMQ HX HXM HIA HEA
            obtain ⟨c0, c1, c2, c3, hpx⟩ := CX.out w1 _ G1.out
            go_upto_region 19 with (
              at_builtin
              refine wpList_append_bytes rfl (.tmp 78) (.tmp 82) rfl rfl x4 LL (by rfl) (own_of1 O1.out ((Keeps.refl _ w1).alloc _)) (w1.heap.size + 1) (some ⟨w1.heap.size, 0, none⟩) 1 1 [y] (by rfl) rfl (fun _ => ⟨w1.heap.size, 0, rfl, Nat.lt_succ_self _, fun j hj => by obtain rfl : j = 0 := (by simp at hj; omega); rw [HY.out]; simp⟩) (by omega) ?_
              intro v5 w5 o5 g5
              have O5 := Lib.hid o5
              have G5 := Lib.hid ((G1.out.trans (Grows.of ((Keeps.refl _ w1).alloc _))).trans g5)
              clear o5 g5)
            clear c0 c1 c2 c3 hpx O1 G1
            obtain ⟨c0, c1, c2, c3, hpx⟩ := CX.out w5 _ G5.out
            obtain ⟨LL1, hLL1⟩ : ∃ M, M = LL ++ [y] := ⟨_, rfl⟩
            have hL1 : LL1.length ≤ 80001 := by rw [hLL1, List.length_append]; show _ + 1 ≤ _; omega
            rw [← hLL1] at O5
            have HLL1 := Lib.hid hLL1
            clear hLL1
            go_wp2_with fail
            refine (AC.out _).mono ?_
            rintro e w6 ⟨rfl, k6⟩
            have O6 := Lib.hid (show OutB w6 v5 LL1 from own_of1 O5.out k6)
            have G6 := Lib.hid (G5.out.trans (Grows.of k6))
            clear c0 c1 c2 c3 hpx O5 G5 k6 AC
            obtain ⟨c0, c1, c2, c3, hpx⟩ := CX.out w6 _ G6.out
            rcases hfour with rfl | rfl | rfl | rfl
            · have da : decide (((0 : Int) = 1) ∨ ((0 : Int) = 3)) = false := by decide
              have db : decide ((0 : Int) = 3) = false := by decide
              have ds : decide ((0 : Int) = 4) = false := by decide
              rw [db] at BC
              rw [ds] at SC
              rw [da]
              clear da db ds
              have HIF : Hid (LL ++ insB x = LL1) := Lib.hid (by rw [HIB.out, HLL1.out]; simp)
              have HF := Lib.hid (HO.out.more KX.out O6.out G6.out)
              rw [← HIF.out, HT.out] at HF
              have HF := Lib.hid HF
              go_wp2_with (first | (go_at_call 52; refine (BC.out _).mono ?_; rintro e w' ⟨rfl, rfl⟩) | (go_at_call 53; refine (SC.out _).mono ?_; rintro e w' ⟨rfl, rfl⟩))
              go_roundw
              case rel => exact ⟨k + 1, by omega, by go_num, HALL2.out, HF.out⟩
              case measure => simp [intOf]; omega
            · have da : decide (((1 : Int) = 1) ∨ ((1 : Int) = 3)) = true := by decide
              have db : decide ((1 : Int) = 3) = false := by decide
              have ds : decide ((1 : Int) = 4) = false := by decide
              rw [db] at BC
              rw [ds] at SC
              rw [da]
              clear da db ds
              go_wp2_with (first | (go_at_call 52; refine (BC.out _).mono ?_; rintro e w' ⟨rfl, rfl⟩) | (go_at_call 53; refine (SC.out _).mono ?_; rintro e w' ⟨rfl, rfl⟩))
              refine (eight_any x.a _).mono ?_
              rintro e w7 ⟨ve, rfl, o2, b2, k2⟩
              obtain ⟨A2, c2', rfl⟩ := own_formk o2
              obtain ⟨hr2, _, _⟩ := own_rdB o2 rfl
              have h8 : (bytes8 x.a).length = 8 := rfl
              rw [h8] at o2 b2 ⊢
              have HR2 := Lib.hid hr2
              have K2 := Lib.hid k2
              clear o2 b2 k2 hr2 h8
              go_upto_region 21 with (
                at_builtin
                refine wpList_append_bytes rfl (.tmp 87) (.tmp 90) rfl rfl v5 LL1 (by rfl) (own_of1 O6.out K2.out) w7.heap.size A2 8 c2' (bytes8 x.a) (by rfl) rfl HR2.out (by omega) ?_
                intro v8 w8 o5 g5
                have O8 := Lib.hid o5
                have G8 := Lib.hid ((G6.out.trans (Grows.of K2.out)).trans g5)
                clear o5 g5 HR2 K2)
              clear c0 c1 c2 c3 hpx O6 G6
              obtain ⟨c0, c1, c2, c3, hpx⟩ := CX.out w8 _ G8.out
              obtain ⟨LL3, hLLn⟩ : ∃ M, M = LL1 ++ bytes8 x.a := ⟨_, rfl⟩
              have hLn6 : LL3.length ≤ 80009 := by rw [hLLn, List.length_append]; show _ + 8 ≤ _; omega
              rw [← hLLn] at O8
              have HLL3 := Lib.hid hLLn
              clear hLLn
              have HIF : Hid (LL ++ insB x = LL3) := Lib.hid (by rw [HIB.out, HLL3.out, HLL1.out]; simp)
              have HF := Lib.hid (HO.out.more KX.out O8.out G8.out)
              rw [← HIF.out, HT.out] at HF
              have HF := Lib.hid HF
              go_wp2_with (first | (go_at_call 52; refine (BC.out _).mono ?_; rintro e w' ⟨rfl, rfl⟩) | (go_at_call 53; refine (SC.out _).mono ?_; rintro e w' ⟨rfl, rfl⟩))
              go_roundw
              case rel => exact ⟨k + 1, by omega, by go_num, HALL2.out, HF.out⟩
              case measure => simp [intOf]; omega
            · have da : decide (((3 : Int) = 1) ∨ ((3 : Int) = 3)) = true := by decide
              have db : decide ((3 : Int) = 3) = true := by decide
              have ds : decide ((3 : Int) = 4) = false := by decide
              rw [db] at BC
              rw [ds] at SC
              rw [da]
              clear da db ds
              go_wp2_with (first | (go_at_call 52; refine (BC.out _).mono ?_; rintro e w' ⟨rfl, rfl⟩) | (go_at_call 53; refine (SC.out _).mono ?_; rintro e w' ⟨rfl, rfl⟩))
              refine (eight_any x.a _).mono ?_
              rintro e w7 ⟨ve, rfl, o2, b2, k2⟩
              obtain ⟨A2, c2', rfl⟩ := own_formk o2
              obtain ⟨hr2, _, _⟩ := own_rdB o2 rfl
              have h8 : (bytes8 x.a).length = 8 := rfl
              rw [h8] at o2 b2 ⊢
              have HR2 := Lib.hid hr2
              have K2 := Lib.hid k2
              clear o2 b2 k2 hr2 h8
              go_upto_region 21 with (
                at_builtin
                refine wpList_append_bytes rfl (.tmp 87) (.tmp 90) rfl rfl v5 LL1 (by rfl) (own_of1 O6.out K2.out) w7.heap.size A2 8 c2' (bytes8 x.a) (by rfl) rfl HR2.out (by omega) ?_
                intro v8 w8 o5 g5
                have O8 := Lib.hid o5
                have G8 := Lib.hid ((G6.out.trans (Grows.of K2.out)).trans g5)
                clear o5 g5 HR2 K2)
              clear c0 c1 c2 c3 hpx O6 G6
              obtain ⟨c0, c1, c2, c3, hpx⟩ := CX.out w8 _ G8.out
              obtain ⟨LL3, hLLn⟩ : ∃ M, M = LL1 ++ bytes8 x.a := ⟨_, rfl⟩
              have hLn6 : LL3.length ≤ 80009 := by rw [hLLn, List.length_append]; show _ + 8 ≤ _; omega
              rw [← hLLn] at O8
              have HLL3 := Lib.hid hLLn
              clear hLLn
              go_wp2_with (first | (go_at_call 52; refine (BC.out _).mono ?_; rintro e w' ⟨rfl, rfl⟩) | (go_at_call 53; refine (SC.out _).mono ?_; rintro e w' ⟨rfl, rfl⟩))
              refine (eight_any x.b _).mono ?_
              rintro e w9 ⟨ve, rfl, o2, b2, k2⟩
              obtain ⟨A2, c2', rfl⟩ := own_formk o2
              obtain ⟨hr2, _, _⟩ := own_rdB o2 rfl
              have h8 : (bytes8 x.b).length = 8 := rfl
              rw [h8] at o2 b2 ⊢
              have HR2 := Lib.hid hr2
              have K2 := Lib.hid k2
              clear o2 b2 k2 hr2 h8
              go_upto_region 23 with (
                at_builtin
                refine wpList_append_bytes rfl (.tmp 95) (.tmp 98) rfl rfl v8 LL3 (by rfl) (own_of1 O8.out K2.out) w9.heap.size A2 8 c2' (bytes8 x.b) (by rfl) rfl HR2.out (by omega) ?_
                intro v10 w10 o5 g5
                have O10 := Lib.hid o5
                have G10 := Lib.hid ((G8.out.trans (Grows.of K2.out)).trans g5)
                clear o5 g5 HR2 K2)
              clear c0 c1 c2 c3 hpx O8 G8
              obtain ⟨c0, c1, c2, c3, hpx⟩ := CX.out w10 _ G10.out
              obtain ⟨LL5, hLLn⟩ : ∃ M, M = LL3 ++ bytes8 x.b := ⟨_, rfl⟩
              have hLn8 : LL5.length ≤ 80017 := by rw [hLLn, List.length_append]; show _ + 8 ≤ _; omega
              rw [← hLLn] at O10
              have HLL5 := Lib.hid hLLn
              clear hLLn
              have HIF : Hid (LL ++ insB x = LL5) := Lib.hid (by rw [HIB.out, HLL5.out, HLL3.out, HLL1.out]; simp)
              have HF := Lib.hid (HO.out.more KX.out O10.out G10.out)
              rw [← HIF.out, HT.out] at HF
              have HF := Lib.hid HF
              go_wp2_with (first | (go_at_call 52; refine (BC.out _).mono ?_; rintro e w' ⟨rfl, rfl⟩) | (go_at_call 53; refine (SC.out _).mono ?_; rintro e w' ⟨rfl, rfl⟩))
              go_roundw
              case rel => exact ⟨k + 1, by omega, by go_num, HALL2.out, HF.out⟩
              case measure => simp [intOf]; omega
            · have da : decide (((4 : Int) = 1) ∨ ((4 : Int) = 3)) = false := by decide
              have db : decide ((4 : Int) = 3) = false := by decide
              have ds : decide ((4 : Int) = 4) = true := by decide
              rw [db] at BC
              rw [ds] at SC
              rw [da]
              clear da db ds
              obtain ⟨z, hz⟩ : ∃ z, z = (x.s.size : Int) % 256 := ⟨_, rfl⟩
              rw [← hz] at HIB
              have HZ := Lib.hid hz
              have hss : x.s.size ≤ 10000 := ok2
              clear hz
              go_upto_region 24 with (first | (go_at_call 52; refine (BC.out _).mono ?_; rintro e w' ⟨rfl, rfl⟩) | (go_at_call 53; refine (SC.out _).mono ?_; rintro e w' ⟨rfl, rfl⟩))
              refine wp_region_held_drew (S := fun w' => w'.cell? ⟨PX, 3, none⟩ = some (.string x.s) ∧ PX < w'.heap.size) (by kernel_rfl) (⟨c3, hpx⟩) (fun hHeld => ?_)
              refine wpAnyH_take (i := 0) (v := ?_) rfl (by kernel_rfl) (by kernel_rfl) (by kernel_rfl) (fun _ _ _ h => h) (Or.inl ⟨by rfl, ?_⟩) (by assumption) ?_
              rotate_left
              · (intro w' hSw; (try dsimp only at hSw); go_simp; (try (with_reducible rfl)))
              simp only [Act.put, List.getElem_toArray, List.getElem_cons_zero, List.setIfInBounds_toArray, List.set_cons_succ, List.set_cons_zero]
              refine wpAnyH_take (i := 1) (v := ?_) rfl (by kernel_rfl) (by kernel_rfl) (by kernel_rfl) (fun _ _ _ h => h) (Or.inl ⟨by rfl, ?_⟩) (by assumption) ?_
              rotate_left
              · (intro w' hSw; (try dsimp only at hSw); go_simp; (try (with_reducible rfl)))
              simp only [Act.put, List.getElem_toArray, List.getElem_cons_succ, List.getElem_cons_zero, List.setIfInBounds_toArray, List.set_cons_succ, List.set_cons_zero]
              refine wpAnyH_take (i := 2) (v := ?_) rfl (by kernel_rfl) (by kernel_rfl) (by kernel_rfl) (fun _ _ _ h => h) (Or.inl ⟨by rfl, ?_⟩) (by assumption) ?_
              rotate_left
              · (intro w' hSw; (try dsimp only at hSw); go_simp; (try (with_reducible rfl)))
              simp only [Act.put, List.getElem_toArray, List.getElem_cons_succ, List.getElem_cons_zero, List.setIfInBounds_toArray, List.set_cons_succ, List.set_cons_zero]
              refine wpAnyH_take (i := 3) (v := ?_) rfl (by kernel_rfl) (by kernel_rfl) (by kernel_rfl) (fun _ _ _ h => h) (Or.inl ⟨by rfl, ?_⟩) (by assumption) ?_
              rotate_left
              · (intro w' hSw; (try dsimp only at hSw); go_simp; (try (with_reducible rfl)))
              simp only [Act.put, List.getElem_toArray, List.getElem_cons_succ, List.getElem_cons_zero, List.setIfInBounds_toArray, List.set_cons_succ, List.set_cons_zero]
              refine wpAnyH_take (i := 4) (v := ?_) rfl (by kernel_rfl) (by kernel_rfl) (by kernel_rfl) (fun _ _ _ h => h) (Or.inl ⟨by rfl, ?_⟩) (by assumption) ?_
              rotate_left
              · (intro w' hSw; (try dsimp only at hSw); go_simp; (try (with_reducible rfl)))
              simp only [Act.put, List.getElem_toArray, List.getElem_cons_succ, List.getElem_cons_zero, List.setIfInBounds_toArray, List.set_cons_succ, List.set_cons_zero]
              refine wpAnyH_take (i := 7) (v := ?_) rfl (by kernel_rfl) (by kernel_rfl) (by kernel_rfl) (fun _ _ _ h => h) (Or.inl ⟨by rfl, ?_⟩) (by assumption) ?_
              rotate_left
              · (intro w' hSw; (try dsimp only at hSw); go_simp; (try (with_reducible rfl)))
              simp only [Act.put, List.getElem_toArray, List.getElem_cons_succ, List.getElem_cons_zero, List.setIfInBounds_toArray, List.set_cons_succ, List.set_cons_zero]
              refine wpAnyH_take (i := 8) (v := ?_) rfl (by kernel_rfl) (by kernel_rfl) (by kernel_rfl) (fun _ _ _ h => h) (Or.inl ⟨by rfl, ?_⟩) (by assumption) ?_
              rotate_left
              · (intro w' hSw; (try dsimp only at hSw); go_simp; (try (with_reducible rfl)))
              simp only [Act.put, List.getElem_toArray, List.getElem_cons_succ, List.getElem_cons_zero, List.setIfInBounds_toArray, List.set_cons_succ, List.set_cons_zero]
              refine wpAnyH_ready (rs := [5]) (by kernel_rfl) (by simp) ?_
              refine AllReadyH.cons rfl (fun K hK => ?_) AllReadyH.nil
              go_simp
              refine hK.out _ _ ⟨(((Keeps.refl (fun _ => False) _).alloc _).cell hpx (fun h => h)).trans c3, Nat.lt_of_lt_of_le hpx ((Keeps.refl (fun _ => False) _).alloc _).size⟩ (fun hHeld => ?_)
              clear hK K
              refine wpAnyH_ready (rs := [6]) (by kernel_rfl) (by simp) ?_
              refine AllReadyH.cons rfl (fun K hK => ?_) AllReadyH.nil
              refine step_append_bytes (by rfl) (.tmp 103) (.tmp 108) (by rfl) (by rfl) v5 LL1 (by rfl) (own_of1 O6.out ((Keeps.refl _ w6).drew.alloc _)) (w6.heap.size + 1) (some ⟨w6.heap.size, 0, none⟩) 1 1 [z] (by rfl) rfl (by rw [HZ.out]; exact rd_new w6.drew _) (by omega) ?_
              intro v7 w7 o7 g7
              have O7 := Lib.hid o7
              have G7 := Lib.hid ((G6.out.trans (Grows.of ((Keeps.refl _ w6).drew.alloc _))).trans g7)
              clear o7 g7
              refine hK.out _ _ ⟨(CX.out _ _ G7.out).2.2.2.1, (CX.out _ _ G7.out).2.2.2.2⟩ (fun hHeld => ?_)
              clear hK K
              refine wpAnyH_ready (rs := [9]) (by kernel_rfl) (by simp) ?_
              refine AllReadyH.cons rfl (fun K hK => ?_) AllReadyH.nil
              refine step_append_str (by rfl) (.tmp 109) (.tmp 111) (by rfl) (by rfl) v7 (LL1 ++ [z]) (by simp) (by rfl) O7.out x.s (by rfl) (by rw [List.length_append]; show _ + 1 + _ ≤ _; omega) ?_
              intro v8 w8 o8 g8
              have O8 := Lib.hid o8
              have G8 := Lib.hid (G7.out.trans g8)
              clear o8 g8
              refine hK.out _ _ ⟨(CX.out _ _ G8.out).2.2.2.1, (CX.out _ _ G8.out).2.2.2.2⟩ (fun hHeld => ?_)
              clear hK K
              refine wpAnyH_take (i := 10) (v := ?_) rfl (by kernel_rfl) (by kernel_rfl) (by kernel_rfl) (fun _ _ _ h => h) (Or.inl ⟨by rfl, ?_⟩) (by assumption) ?_
              rotate_left
              · (intro w' hSw; (try dsimp only at hSw); go_simp; (try (with_reducible rfl)))
              simp only [Act.put, List.getElem_toArray, List.getElem_cons_succ, List.getElem_cons_zero, List.setIfInBounds_toArray, List.set_cons_succ, List.set_cons_zero]
              refine wpAnyH_done (by kernel_rfl) ?_ _
              clear hHeld
              have HIF : Hid (LL ++ insB x = LL1 ++ [z] ++ strI x.s) := Lib.hid (by rw [HIB.out, HLL1.out]; simp)
              have HF := Lib.hid (HO.out.more KX.out O8.out G8.out)
              rw [← HIF.out, HT.out] at HF
              have HF := Lib.hid HF
              go_wp2_with (first | (go_at_call 52; refine (BC.out _).mono ?_; rintro e w' ⟨rfl, rfl⟩) | (go_at_call 53; refine (SC.out _).mono ?_; rintro e w' ⟨rfl, rfl⟩))
              go_roundw
              case rel => exact ⟨k + 1, by omega, by go_num, HALL2.out, HF.out⟩
              case measure => simp [intOf]; omega
        · obtain rfl : k = n := by omega
          have h3d : decide ((k : Int) < (k : Int)) = false := decide_eq_false (by omega)
          have hall2 : ∀ x ∈ L, mayI x = true := fun x hx => by
            obtain ⟨i, hi, e⟩ := List.mem_iff_getElem.1 hx
            have := HALL.out i (by rw [HN.out]; exact hi)
            rw [show L.getD i default = x by rw [← e]; simp [List.getD, hi]] at this
            exact this
          have hfin : PutE L Z w (.returned (.tuple #[x4, .int .i64 0])) wr := by
            refine ⟨?_, HA.out.trans HO.out.2.2 (fun _ _ h => h)⟩
            rw [← HN.out, ← HM.out, if_neg (by omega), if_neg]
            · refine ⟨x4, rfl, ?_, fun g hg => Nat.le_trans HA.out.size (HO.out.2.1 g hg)⟩
              have h := HO.out.1
              rw [List.take_of_length_le (by rw [← HN.out]; exact Nat.le_refl _), HPUT.out] at h
              exact h
            · rintro (⟨x, hx, e⟩ | h)
              · rw [hall2 x hx] at e
                cases e
              · exact HZK.out h
          have HF := Lib.hid hfin
          clear hfin hall2 HALL HO
          go_wp2
          go_ret2
          exact HF.out
end Go.Proofs.YtoombjbpblighaaDoor
