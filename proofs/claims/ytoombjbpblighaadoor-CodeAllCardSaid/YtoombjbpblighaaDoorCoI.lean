/-
  Layer 8: the contract of instruction. Written by an AI agent.
-/
import Derived.Test.YtoombjbpblighaaDoorCoP
import Derived.Lib.AppendStr
namespace Go.Proofs.YtoombjbpblighaaDoor
open Go Go.RowKit Go.Shelf
set_option linter.unusedVariables false
set_option linter.unusedSimpArgs false

theorem own_up {w : World} {B e s : Nat} {v : Value} {n : Nat} {xs : List Value} (h : w.ownsRow 0 e s v n xs) (hb : ∀ g, v.ownBlock = some g → B ≤ g) : w.ownsRow B e s v n xs := by
  refine ⟨h.1, ?_⟩
  rcases h.2 with h2 | ⟨g, cap, cur, e1, _, r⟩
  · exact .inl h2
  · exact .inr ⟨g, cap, cur, e1, hb g (by rw [e1]; rfl), r⟩
/-- append of a string's bytes, and where the new row lies. -/
theorem run_append_strk {P : Program} (w : World) (t u ty e : TypeId) (i : TypeInfo) (ht : P.underlying t = some (.slice e)) (hu : P.underlying u = some .string) (hi : P.info? e = some i) (hz : i.zero = some (.int .u8 0))
    (hsize : i.size = 1) (hby : i.bytes = 1) (v : Value) (n : Nat) (h0 : 0 < n) (xs : List Value) (hown : w.ownsRow 0 e 1 v n xs) (s : ByteArray) (h63 : n + s.size ≤ 1000000) :
    ∃ v' w', (Builtin.append_ #[t, u] ty #[v, .string s]).run P w = .ok v' w' ∧ w'.ownsRow 0 e 1 v' (n + s.size) (xs ++ Lib.strCells s) ∧ w.grownBy w' v.ownBlock ∧ (v'.ownBlock = v.ownBlock ∨ v'.ownBlock = some w.heap.size) := by
  obtain ⟨v', w', hr, ho, hg, hn⟩ := Lib.run_append_own_string (P := P) w 0 t u ty e i ht hu hi hz hsize hby v n xs hown s (by unfold maxLen; omega) (by omega) (Nat.zero_le _)
  refine ⟨v', w', hr, ho, hg, ?_⟩
  have hxl : xs.length = n := by simpa using hown.1
  have hown2 := hown
  rcases hown.2 with ⟨rfl, h1⟩ | ⟨g, cap, cur, rfl, hbg, hgg, hnc, hcm, hcs, htake⟩
  · omega
  · by_cases hroom : n + s.size ≤ cap
    · left
      have hcs' : cur.size = cap := by simpa using hcs
      rw [Lib.run_append_room_string (P := P) w t u ty e i ht hu hi hsize g n cap cur hgg s hroom (by omega)] at hr
      cases hr
      rfl
    · right
      have holds : ∀ j u, xs[j]? = some u → w.cell? ((⟨g, 0, none⟩ : Addr).add j) = some u := hown2.cells (g := g) rfl
      rw [Lib.run_append_grow_string (P := P) w t u ty e i (.int .u8 0) ht hu hi hz ⟨g, 0, none⟩ n cap xs (by rw [hsize]; simpa using hxl) holds s (by omega) (by omega) (by rw [hby]; exact growslice_fits (by omega) (by omega))] at hr
      cases hr
      rfl
theorem wpList_append_strk {P : Program} {w : World} {ops : Array Oper} {rest : List Oper} {o : Oper} {a : Act} {Q : Exit → Act → World → Prop} (hgd : o.guard = none) (sl x : Operand) (t u : TypeId)
    (ho : o.op = .call { callee := .builtin .append, args := #[sl, x], argTypes := #[t, u] })
    (e : TypeId) (i : TypeInfo) (ht : P.underlying t = some (.slice e)) (hu : P.underlying u = some .string) (hi : P.info? e = some i) (hz : i.zero = some (.int .u8 0)) (hsize : i.size = 1) (hby : i.bytes = 1)
    (v : Value) (n : Nat) (h0 : 0 < n) (xs : List Value) (hs : a.eval sl = v) (hown : w.ownsRow 0 e 1 v n xs) (s : ByteArray) (hx : a.eval x = .string s) (h63 : n + s.size ≤ 1000000)
    (h : ∀ v' w', w'.ownsRow 0 e 1 v' (n + s.size) (xs ++ Lib.strCells s) → w.grownBy w' v.ownBlock → (v'.ownBlock = v.ownBlock ∨ v'.ownBlock = some w.heap.size) → wpList P ops Q rest (a.put o.dst v') w') : wpList P ops Q (o :: rest) a w := by
  refine wpList_plain hgd fun K hK => ?_
  obtain ⟨v', w', hr, h2, h3, h4⟩ := run_append_strk (P := P) w t u o.type e i ht hu hi hz hsize hby v n h0 xs hown s h63
  unfold Oper.wp execOp
  simp only [ho, resolve, invoke, builtin, Sem.run_bind, Sem.run_pure, Result.andThen_ok, List.map_toArray, List.map_cons, List.map_nil, hs, hx, hr]
  exact hK _ _ (h v' w' h2 h3 h4)
def strI (s : ByteArray) : List Int := s.data.toList.map fun c => (c.toNat : Int)
theorem strI_cells (s : ByteArray) : valB (strI s) = Lib.strCells s := by simp [valB, strI, Lib.strCells]
theorem strI_length (s : ByteArray) : (strI s).length = s.size := by simp [strI]

theorem four_cells (w : World) (x : Ins) : (w.alloc (.cells #[.int .i64 x.o, .int .i64 x.a, .int .i64 x.b, .string x.s] 52)).cell? ⟨w.heap.size, 0, none⟩ = some (.int .i64 x.o) ∧ (w.alloc (.cells #[.int .i64 x.o, .int .i64 x.a, .int .i64 x.b, .string x.s] 52)).cell? ⟨w.heap.size, 1, none⟩ = some (.int .i64 x.a) ∧ (w.alloc (.cells #[.int .i64 x.o, .int .i64 x.a, .int .i64 x.b, .string x.s] 52)).cell? ⟨w.heap.size, 2, none⟩ = some (.int .i64 x.b) ∧ (w.alloc (.cells #[.int .i64 x.o, .int .i64 x.a, .int .i64 x.b, .string x.s] 52)).cell? ⟨w.heap.size, 3, none⟩ = some (.string x.s) := ⟨by simp, by simp, by simp, by simp⟩

/-- An instruction's bytes. -/
def insB (x : Ins) : List Int := [x.o % 256] ++ (if hasN x.o = 1 ∨ hasN x.o = 3 then bytes8 x.a else []) ++ (if hasN x.o = 3 then bytes8 x.b else []) ++ (if hasN x.o = 4 then (x.s.size : Int) % 256 :: strI x.s else [])

set_option maxRecDepth 100000 in
set_option maxHeartbeats 4000000 in
theorem instr_any (v : Value) (x : Ins) (h0 : -9223372036854775808 ≤ x.o) (h1 : x.o ≤ 9223372036854775807) (hs : x.s.size ≤ 10000) (L : List Int) (hL : L.length ≤ 80000) (w : World) (ho : OutB w v L) :
    Calls Tryd.prog 49 #[v, .agg #[.int .i64 x.o, .int .i64 x.a, .int .i64 x.b, .string x.s]] w fun e w' => ∃ v', e = .returned v' ∧ OutB w' v' (L ++ insB x) ∧ Grows w v w' v' := by
  obtain ⟨i0, hi, hz0, hz1, hz2⟩ := info_parts info5
  have hfour := has_four x.o
  have HC0 : Hid (∀ w, Calls Tryd.prog 59 #[.int .i64 x.o] w fun e w' => e = .returned (.int .i64 (hasN x.o)) ∧ Keeps (fun _ => False) w w') := fun w => has_any x.o h0 h1 w
  have hib : insB x = [x.o % 256] ++ (if hasN x.o = 1 ∨ hasN x.o = 3 then bytes8 x.a else []) ++ (if hasN x.o = 3 then bytes8 x.b else []) ++ (if hasN x.o = 4 then (x.s.size : Int) % 256 :: strI x.s else []) := rfl
  obtain ⟨o, hoo⟩ : ∃ o, o = hasN x.o := ⟨_, rfl⟩
  rw [← hoo] at hib HC0 hfour
  have HIB := Lib.hid hib
  have hvw : ¬ some w.heap.size = v.ownBlock := fun e => by have := own_ltk ho e.symm; omega
  have HO := Lib.hid ho
  obtain ⟨m, hm⟩ : ∃ m : Nat, m = L.length := ⟨_, rfl⟩
  rw [← hm] at hL
  have HMm := Lib.hid hm
  clear hib hoo ho hm
  go_enter Tryd.func49, Tryd.ntmps49
  go_wp2_with fail
  obtain ⟨c0, c1, c2, c3⟩ := four_cells w x
  generalize hwA : w.alloc _ = wA
  rw [hwA] at c0 c1 c2 c3
  have kA : Keeps (fun _ => False) w wA := by rw [← hwA]; exact (Keeps.refl _ _).alloc _
  obtain ⟨pn, hpn⟩ : ∃ pn, pn = w.heap.size := ⟨_, rfl⟩
  rw [← hpn] at c0 c1 c2 c3 hvw ⊢
  have HVW := Lib.hid hvw
  clear hwA hpn hvw
  refine (HC0.out wA).mono ?_
  rintro e w1 ⟨rfl, k1⟩
  have d0 := (k1.cell (cell_ltk c0) (fun h => h)).trans c0
  have d1 := (k1.cell (cell_ltk c1) (fun h => h)).trans c1
  have d2 := (k1.cell (cell_ltk c2) (fun h => h)).trans c2
  have d3 := (k1.cell (cell_ltk c3) (fun h => h)).trans c3
  have kA1 := kA.trans k1 (fun _ _ h => h)
  have G1 := Lib.hid (Grows.of (v := v) kA1)
  have hpn1 := cell_ltk d0
  have HO1 := Lib.hid (show OutB w1 v L from own_of1 HO.out kA1)
  have CP : Hid (∀ wc u, Grows w1 v wc u → wc.cell? ⟨pn, 0, none⟩ = some (.int .i64 x.o) ∧ wc.cell? ⟨pn, 1, none⟩ = some (.int .i64 x.a) ∧ wc.cell? ⟨pn, 2, none⟩ = some (.int .i64 x.b) ∧ wc.cell? ⟨pn, 3, none⟩ = some (.string x.s)) := Lib.hid fun wc u h =>
    ⟨(h.1.cell hpn1 HVW.out).trans d0, (h.1.cell hpn1 HVW.out).trans d1, (h.1.cell hpn1 HVW.out).trans d2, (h.1.cell hpn1 HVW.out).trans d3⟩
  clear c0 c1 c2 c3 kA k1 kA1 HC0 HO d1 d2 d3
  obtain ⟨y, hy⟩ : ∃ y, y = x.o % 256 := ⟨_, rfl⟩
  have HY := Lib.hid hy
  clear hy
  go_upto_region 3 with (at_builtin; refine wpList_append_atk rfl (.tmp 9) (.tmp 13) 42 rfl 0 5 i0 _ 1 1 Tryd.underlying42 hi hz0 hz1 hz2 (by rfl) (by omega) v m (valB L) (by rfl) (by rw [HMm.out]; exact own_of1 HO1.out ((Keeps.refl _ w1).alloc _)) ⟨w1.heap.size, 0, none⟩ 1 1 (valB [y]) (by rfl) (by rfl) (by rw [show valB [y] = [.int .u8 y] from rfl, HY.out]; exact news1 _ 5 rfl) (valB_one _) (by omega) (by omega) (Nat.zero_le _) ?_
                         intro v5 w5 h5 g5 b5
                         obtain ⟨A5, c5', rfl⟩ := own_formk h5
                         have hmm := outB_more (L := L) [y] rfl ((Keeps.refl _ w1).alloc _) (by rw [← HMm.out]; exact h5) g5 b5
                         have HM := Lib.hid hmm.1
                         have G5 := Lib.hid hmm.2
                         clear hmm h5 g5 b5)
  obtain ⟨e0, e1, e2, e3⟩ := CP.out w5 _ G5.out
  have hL5 : (L ++ [y]).length ≤ 80001 := by rw [List.length_append, ← HMm.out]; show m + 1 ≤ _; omega
  rcases hfour with rfl | rfl | rfl | rfl
  · have HI : Hid (L ++ [y] = L ++ insB x) := Lib.hid (by rw [HIB.out, HY.out]; simp)
    clear hL5
    go_wp2
    go_ret
    exact ⟨_, rfl, by rw [← HI.out]; exact HM.out, G1.out.trans G5.out⟩
  · have HI : Hid (L ++ [y] ++ bytes8 x.a = L ++ insB x) := Lib.hid (by rw [HIB.out, HY.out]; simp)
    have NA := Lib.hid (number8_any _ x.a (L ++ [y]) (by omega) w5 HM.out)
    clear hL5
    go_wp2_with fail
    refine NA.out.mono ?_
    rintro e w6 ⟨v6, rfl, o6, g6⟩
    have O6 := Lib.hid o6
    have G6 := Lib.hid (G5.out.trans g6)
    clear o6 g6 NA
    go_wp2
    go_ret
    exact ⟨_, rfl, by rw [← HI.out]; exact O6.out, G1.out.trans G6.out⟩
  · have HI : Hid (L ++ [y] ++ bytes8 x.a ++ bytes8 x.b = L ++ insB x) := Lib.hid (by rw [HIB.out, HY.out]; simp)
    have NA := Lib.hid (number8_any _ x.a (L ++ [y]) (by omega) w5 HM.out)
    have hL6 : (L ++ [y] ++ bytes8 x.a).length ≤ 80009 := by rw [List.length_append]; show _ + 8 ≤ _; omega
    clear hL5
    go_wp2_with fail
    refine NA.out.mono ?_
    rintro e w6 ⟨v6, rfl, o6, g6⟩
    have G6 := Lib.hid (G5.out.trans g6)
    obtain ⟨f0, f1, f2, f3⟩ := CP.out w6 _ G6.out
    have NB := Lib.hid (number8_any v6 x.b (L ++ [y] ++ bytes8 x.a) (by omega) w6 o6)
    clear o6 g6 NA hL6
    go_wp2_with fail
    refine NB.out.mono ?_
    rintro e w7 ⟨v7, rfl, o7, g7⟩
    have O7 := Lib.hid o7
    have G7 := Lib.hid (G6.out.trans g7)
    clear o7 g7 NB
    go_wp2
    go_ret
    exact ⟨_, rfl, by rw [← HI.out]; exact O7.out, G1.out.trans G7.out⟩
  · have HI : Hid (L ++ [y] ++ [(x.s.size : Int) % 256] ++ strI x.s = L ++ insB x) := Lib.hid (by rw [HIB.out, HY.out]; simp)
    obtain ⟨z, hz⟩ : ∃ z, z = (x.s.size : Int) % 256 := ⟨_, rfl⟩
    have HZ := Lib.hid hz
    rw [← hz] at HI
    have hM5 := HM.out
    have HL5 : Hid ((L ++ [y]).length = m + 1) := Lib.hid (by rw [List.length_append, ← HMm.out]; rfl)
    have HL8 : Hid ((L ++ [y] ++ [z]).length = m + 1 + 1) := Lib.hid (by rw [List.length_append, HL5.out]; rfl)
    have HM5 : Hid (w5.ownsRow 0 5 1 (.slice A5 (m + 1) c5') (m + 1) (valB (L ++ [y]))) := Lib.hid (by have h := HM.out; unfold OutB at h; rw [HL5.out] at h; exact h)
    clear hz hL5 hM5
    go_upto_region 9 with (at_builtin; refine wpList_append_atk rfl (.tmp 32) (.tmp 37) 42 rfl 0 5 i0 _ 1 1 Tryd.underlying42 hi hz0 hz1 hz2 (by rfl) (by omega) (.slice A5 (m + 1) c5') (m + 1) (valB (L ++ [y])) (by rfl) (own_of1 HM5.out ((Keeps.refl _ w5).alloc _)) ⟨w5.heap.size, 0, none⟩ 1 1 (valB [z]) (by rfl) (by rfl) (by rw [show valB [z] = [.int .u8 z] from rfl, HZ.out]; exact news1 _ 5 rfl) (valB_one _) (by omega) (by omega) (Nat.zero_le _) ?_
                           intro v8 w8 h8 g8 b8
                           obtain ⟨A8, c8, rfl⟩ := own_formk h8
                           have hmm := outB_more (L := L ++ [y]) [z] rfl ((Keeps.refl _ w5).alloc _) (by rw [HL5.out]; exact h8) g8 b8
                           have HM8 := Lib.hid hmm.1
                           have G8 := Lib.hid (G5.out.trans hmm.2)
                           clear hmm h8 g8 b8)
    obtain ⟨f0, f1, f2, f3⟩ := CP.out w8 _ G8.out
    have HM88 : Hid (w8.ownsRow 0 5 1 (.slice A8 (m + 1 + 1) c8) (m + 1 + 1) (valB (L ++ [y] ++ [z]))) := Lib.hid (by have h := HM8.out; unfold OutB at h; rw [HL8.out] at h; exact h)
    go_upto_region 10 with (at_builtin; refine wpList_append_strk rfl (.tmp 39) (.tmp 41) 42 9 rfl 5 i0 Tryd.underlying42 Tryd.underlying9 hi hz0 hz1 hz2 (.slice A8 (m + 1 + 1) c8) (m + 1 + 1) (by omega) (valB (L ++ [y] ++ [z])) (by rfl) HM88.out x.s (by rfl) (by omega) ?_
                            intro v9 w9 h9 g9 b9
                            obtain ⟨A9, c9, rfl⟩ := own_formk h9
                            have hmm := outB_more (L := L ++ [y] ++ [z]) (strI x.s) (strI_length x.s).symm (Keeps.refl _ w8) (by rw [HL8.out, strI_cells]; exact h9) g9 b9
                            have HM9 := Lib.hid hmm.1
                            have G9 := Lib.hid (G8.out.trans hmm.2)
                            clear hmm h9 g9 b9)
    go_wp2
    go_ret
    exact ⟨_, rfl, by rw [← HI.out]; exact HM9.out, G1.out.trans G9.out⟩

end Go.Proofs.YtoombjbpblighaaDoor
