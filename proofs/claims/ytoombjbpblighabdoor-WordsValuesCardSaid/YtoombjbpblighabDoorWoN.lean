/-
  Layer 22: the contracts of what words are said and heard by. Written by an AI agent.
-/
import Derived.Test.YtoombjbpblighabDoorWoL
import Derived.Test.YtoombjbpblighabDoorWoM
import Derived.Shelf.Strconv.ErrVarAll
import Derived.Deep.QuietTactic
import Derived.BigQuiet
import Derived.Laws.ResultCell
namespace Go.Proofs.YtoombjbpblighabDoor
open Go Go.RowKit Go.Shelf
set_option linter.unusedVariables false
set_option linter.unusedSimpArgs false

theorem bytes_ext {a b : ByteArray} (h : a.data.toList = b.data.toList) : a = b := by
  obtain ⟨x⟩ := a
  obtain ⟨y⟩ := b
  simp only [ByteArray.mk.injEq]
  exact Array.toList_inj.1 h
theorem len_size (s : ByteArray) : s.data.toList.length = s.size := by simp
theorem app_list (a b : ByteArray) : (a ++ b).data.toList = a.data.toList ++ b.data.toList := by simp
def ofL (l : List UInt8) : ByteArray := ⟨l.toArray⟩
theorem ofL_list (l : List UInt8) : (ofL l).data.toList = l := by simp [ofL]
theorem ofL_size (l : List UInt8) : (ofL l).size = l.length := by rw [← len_size, ofL_list]
theorem ofL_of {s : ByteArray} {l : List UInt8} (h : s.data.toList = l) : s = ofL l := bytes_ext (by rw [h, ofL_list])
theorem toList_data (s : ByteArray) : s.toList = s.data.toList := Lib.toList_data s
theorem word_beq (s : ByteArray) (l : List UInt8) : (s.toList == l) = decide (s.data.toList = l) := by
  rw [toList_data, Bool.eq_iff_iff]
  simp
theorem empty_iff (s : ByteArray) : (s.toList == ([] : List UInt8)) = decide (s.data.toList = []) := word_beq s []
theorem results_cell1 {fn : Func} {p : Tmp} {ty : TypeId} (h : fn.results = #[.cell p ty]) (tmps : Array Value) (P : Program) (w : World) :
    (results fn tmps).run P w = ((asAddr (tmps.getD p undef)).run P w).andThen fun a w₁ => (loadVar ty a).run P w₁ := by
  simp only [results, h]
  simp [Sem.run_bind, Result.andThen]
def TabK (w : World) (name : String) (k : IntKind) (zs : List Int) : Prop := Lib.TabIs Tryd.prog w name k zs ∧ ∀ p, Tryd.prog.globalNamed name = some p → p < w.heap.size
theorem TabK.keep {w w' : World} {name : String} {k : IntKind} {zs : List Int} (h : TabK w name k zs) (hk : Keeps (fun _ => False) w w') : TabK w' name k zs := by
  obtain ⟨h1, h2⟩ := h
  refine ⟨?_, fun p hp => Nat.lt_of_lt_of_le (h2 p hp) hk.size⟩
  unfold Lib.TabIs World.var? at *
  cases hg : Tryd.prog.globalNamed name with
  | none => rw [hg] at h1; cases h1
  | some p =>
    rw [hg] at h1
    simp only [Option.bind_some] at h1 ⊢
    rw [hk.block p (h2 p hg) (fun h => h)]
    exact h1
/-- A variable of the library's that holds an error. -/
def ErrV (w : World) (name : String) : Prop := ∃ b tp p, Tryd.prog.globalNamed name = some b ∧ b < w.heap.size ∧ w.var? Tryd.prog name = some #[.iface tp p]
theorem ErrV.keep {w w' : World} {name : String} (h : ErrV w name) (hk : Keeps (fun _ => False) w w') : ErrV w' name := by
  obtain ⟨b, tp, p, hg, hb, hv⟩ := h
  refine ⟨b, tp, p, hg, Nat.lt_of_lt_of_le hb hk.size, ?_⟩
  unfold World.var? at hv ⊢
  rw [hg] at hv ⊢
  simp only [Option.bind_some] at hv ⊢
  rw [hk.block b hb (fun h => h)]
  exact hv
structure WordW (w : World) : Prop where
  pow : TabK w "internal/strconv.uint64pow10" .u64 Lib.pow10Tab
  es : ErrV w "strconv.ErrSyntax"
  er : ErrV w "strconv.ErrRange"
theorem WordW.keep {w w' : World} (h : WordW w) (hk : Keeps (fun _ => False) w w') : WordW w' := ⟨h.pow.keep hk, h.es.keep hk, h.er.keep hk⟩
theorem keeps_bytes (w : World) (t5 : TypeId) (w' : World) (h : w' = w ∨ ∃ t, w' = Lib.bytesWorld w t5 t) : Keeps (fun _ => False) w w' := by
  rcases h with rfl | ⟨t, rfl⟩
  · exact Keeps.refl _ _
  · exact Keeps.ofBelow (Lib.bytesWorld_below _ _ _)
theorem below_grow (w : World) (k : Nat) (os : Array Obj) : Below w.heap.size w (Sort.grow (w.drewN k) os) := by
  have h1 : ∀ k, (w.drewN k).heap = w.heap ∧ (w.drewN k).os = w.os ∧ (w.drewN k).tape = w.tape ∧ (w.drewN k).output = w.output := by
    intro k
    induction k with
    | zero => exact ⟨rfl, rfl, rfl, rfl⟩
    | succ k ih => exact ih
  obtain ⟨e1, e2, e3, e4⟩ := h1 k
  refine ⟨e2, e3, e4, by rw [Sort.size_grow, e1]; omega, fun j hj => ?_⟩
  rw [Sort.heap_grow_old _ os (by rw [e1]; exact hj), e1]
def Rng (n : Int) : Prop := -9223372036854775808 ≤ n ∧ n ≤ 9223372036854775807
theorem itoa_any (n : Int) (h : Rng n) (w : World) (hw : WordW w) :
    Calls Tryd.prog 19 #[.int .i64 n] w fun e w' => e = .returned (.string (ofL (Lib.itoa n))) ∧ Keeps (fun _ => False) w w' :=
  (Any.strconv_Itoa laysItoa n h.1 h.2 w hw.pow.1).mono fun e w' ⟨he, k, os, hw⟩ => ⟨he, by rw [hw]; exact Keeps.ofBelow (below_grow w k os)⟩
theorem numN_ok {l : List UInt8} {v : Int} (h : Lib.atoiAll l = .ok v) : numN l = v := by unfold numN; rw [h]
theorem numN_not {l : List UInt8} (h : ∀ v, Lib.atoiAll l ≠ .ok v) : numN l = 0 := by
  unfold numN
  split
  · rename_i v hv
    exact absurd hv (h v)
  · rfl
theorem numN_ran {l : List UInt8} (h : Lib.atoiAll l = .range) : numN l = 0 := by unfold numN; rw [h]
theorem numN_rng (l : List UInt8) : Rng (numN l) := by
  rcases hx : Lib.atoiAll l with v | _ | _
  · rw [numN_ok hx]; exact Lib.atoiAll_bounds hx
  · rw [numN_not (by rw [hx]; intro v h; cases h)]; unfold Rng; omega
  · rw [numN_not (by rw [hx]; intro v h; cases h)]; unfold Rng; omega
set_option maxHeartbeats 1000000 in
theorem num_any (s : ByteArray) (hs : s.size ≤ 100000) (w : World) (hw : WordW w) :
    Calls Tryd.prog 21 #[.string s] w fun e w' => e = .returned (.int .i64 (numN s.data.toList)) ∧ Keeps (fun _ => False) w w' := by
  rcases h : Lib.atoiAll s.data.toList with v | _ | _
  · skip
    have C : Hid (Calls Tryd.prog 30 #[.string s] w fun e w' => e = .returned (.tuple #[.int .i64 v, .nilIface]) ∧ Keeps (fun _ => False) w w') := Lib.hid ((Any.strconv_Atoi_ok laysAtoi s (by omega) v h w).mono fun e w' ⟨e1, e2⟩ => ⟨e1, keeps_bytes w _ w' e2⟩)
    have HN := Lib.hid (numN_ok h)
    clear h hw
    go_enter Tryd.func21, Tryd.ntmps21
    go_wp2_with fail
    refine C.out.mono ?_
    rintro e w1 ⟨rfl, k1⟩
    have K1 := Lib.hid k1
    clear k1
    go_wp2
    go_ret
    exact ⟨by rw [HN.out]; rfl, K1.out⟩
  · skip
    obtain ⟨b, tp, p, hg, hb, hv⟩ := hw.es
    have C : Hid (Calls Tryd.prog 30 #[.string s] w fun e w' => (∃ tp p, e = .returned (.tuple #[.int .i64 0, .iface tp p])) ∧ Keeps (fun _ => False) w w') := Lib.hid ((Any.strconv_Atoi_syntax_var laysAtoi s (by omega) h tp p w hv).mono fun e w' ⟨N, e1, e2, e3, e4⟩ => ⟨⟨_, _, e1⟩, Keeps.ofBelow e4⟩)
    have HN := Lib.hid (numN_not (l := s.data.toList) (by rw [h]; intro v h; cases h))
    clear h hw hg hb hv
    go_enter Tryd.func21, Tryd.ntmps21
    go_wp2_with fail
    refine C.out.mono ?_
    rintro e w1 ⟨⟨tq, q, rfl⟩, k1⟩
    have K1 := Lib.hid k1
    clear k1
    go_wp2
    go_ret
    exact ⟨by rw [HN.out]; rfl, K1.out⟩
  · skip
    obtain ⟨b, tp, p, hg, hb, hv⟩ := hw.er
    have C : Hid (Calls Tryd.prog 30 #[.string s] w fun e w' => (∃ v tp p, e = .returned (.tuple #[.int .i64 v, .iface tp p])) ∧ Keeps (fun _ => False) w w') := Lib.hid ((Any.strconv_Atoi_range_var laysAtoi s (by omega) h tp p w hv).mono fun e w' ⟨N, e1, e2, e3, e4⟩ => ⟨⟨_, _, _, e1⟩, Keeps.ofBelow e4⟩)
    have HN := Lib.hid (numN_ran h)
    clear h hw hg hb hv
    go_enter Tryd.func21, Tryd.ntmps21
    go_wp2_with fail
    refine C.out.mono ?_
    rintro e w1 ⟨⟨v, tq, q, rfl⟩, k1⟩
    have K1 := Lib.hid k1
    clear k1
    go_wp2
    go_ret
    exact ⟨by rw [HN.out]; rfl, K1.out⟩
def valV (v : V3) : Value := .agg #[.int .i64 v.ty, .int .i64 v.n, .string (ofL v.s)]
set_option maxHeartbeats 400000 in
theorem int_any (n : Int) (w : World) : Calls Tryd.prog 36 #[.int .i64 n] w fun e w' => e = .returned (.agg #[.int .i64 1, .int .i64 n, .string { data := #[] }]) ∧ Keeps (fun _ => False) w w' := by
  go_enter Tryd.func36, Tryd.ntmps36
  go_wp2
  exact bodyPost_ret (v := .agg #[.int .i64 1, .int .i64 n, .string { data := #[] }]) (by simp [results, Tryd.results36, go_sem]) rfl ⟨rfl, (Keeps.refl _ _).alloc _⟩
set_option maxHeartbeats 400000 in
theorem bool_any (b : Bool) (w : World) : Calls Tryd.prog 34 #[.bool b] w fun e w' => e = .returned (.agg #[.int .i64 2, .int .i64 (if b then 1 else 0), .string { data := #[] }]) ∧ Keeps (fun _ => False) w w' := by
  cases b
  · go_enter Tryd.func34, Tryd.ntmps34
    go_wp2
    exact bodyPost_ret (v := .agg #[.int .i64 2, .int .i64 0, .string { data := #[] }]) (by simp [results, Tryd.results34, go_sem]) rfl ⟨rfl, (Keeps.refl _ _).alloc _⟩
  · go_enter Tryd.func34, Tryd.ntmps34
    go_wp2
    exact bodyPost_ret (v := .agg #[.int .i64 2, .int .i64 1, .string { data := #[] }]) (by simp [results, Tryd.results34, go_sem]) rfl ⟨rfl, (Keeps.refl _ _).alloc _⟩
set_option maxHeartbeats 400000 in
theorem text_any (s : ByteArray) (w : World) : Calls Tryd.prog 35 #[.string s] w fun e w' => e = .returned (.agg #[.int .i64 3, .int .i64 0, .string s]) ∧ Keeps (fun _ => False) w w' := by
  go_enter Tryd.func35, Tryd.ntmps35
  go_wp2
  exact bodyPost_ret (v := .agg #[.int .i64 3, .int .i64 0, .string s]) (by simp [results, Tryd.results35, go_sem]) rfl ⟨rfl, (Keeps.refl _ _).alloc _⟩
theorem indexByte_ge (l : List UInt8) (c : UInt8) : -1 ≤ Lib.indexByte l c := by
  induction l with
  | nil => show (-1 : Int) ≤ -1; omega
  | cons x l ih =>
    rw [Lib.indexByte]
    split
    · omega
    · split <;> omega
theorem indexByte_has (l : List UInt8) (c : UInt8) : decide (0 ≤ Lib.indexByte l c) = l.contains c := by
  induction l with
  | nil => rfl
  | cons x l ih =>
    rw [Lib.indexByte]
    by_cases h : x = c
    · subst h
      simp
    · have h2 : ¬ c = x := fun e => h e.symm
      simp only [List.contains_cons]
      rw [← ih]
      have hcx : (c == x) = false := by simpa using h2
      rw [if_neg (by simpa using h), hcx, Bool.false_or]
      have hz := indexByte_ge l c
      by_cases g : Lib.indexByte l c = -1
      · rw [if_pos (by simpa using g), g]
      · rw [if_neg (by simpa using g)]
        exact decide_eq_decide.2 (by omega)
set_option maxHeartbeats 1000000 in
theorem contains_any (s : ByteArray) (w : World) : Calls Tryd.prog 33 #[.string s, .string { data := #[34] }] w fun e w' => e = .returned (.bool (s.data.toList.contains 34)) ∧ w = w' := by
  have C : Hid (Calls Tryd.prog 39 #[.string s, .string { data := #[34] }] w fun e w' => e = .returned (.int .i64 (Lib.indexByte s.data.toList 34)) ∧ w' = w) := Lib.hid (Any.strings_Index_one { laysSplit with } s 34 w)
  have HI := Lib.hid (indexByte_has s.data.toList 34)
  obtain ⟨z, hz⟩ : ∃ z, z = Lib.indexByte s.data.toList 34 := ⟨_, rfl⟩
  rw [← hz] at C HI
  clear hz
  go_enter Tryd.func33, Tryd.ntmps33
  go_wp2_with fail
  refine C.out.mono ?_
  rintro e w1 ⟨rfl, hw1⟩
  have HW1 := Lib.hid hw1
  clear hw1
  go_wp2
  go_ret
  exact ⟨by rw [← HI.out]; rfl, HW1.out.symm⟩

set_option maxRecDepth 100000 in
set_option maxHeartbeats 4000000 in
/-- only. -/
theorem only_any (s : ByteArray) (hs : s.size ≤ 100000) (w : World) : Calls Tryd.prog 28 #[.string s] w fun e w' => e = .returned (.bool (onlyN s.data.toList)) ∧ w = w' := by
  obtain ⟨q, hq⟩ : ∃ q, q = onlyN s.data.toList := ⟨_, rfl⟩
  rw [← hq]
  have HQ := Lib.hid hq
  clear hq
  go_enter Tryd.func28, Tryd.ntmps28
  go_wp2_with fail
  go_loop [6, 3] (fun s6 s3 => ∃ k : Nat, k ≤ s.size ∧ s6 = .int .i64 k ∧ ∀ i, i < k → (33 ≤ (s.data.toList.getD i 0).toNat ∧ (s.data.toList.getD i 0).toNat ≤ 126)) (fun s6 _ => s.size - (intOf s6).toNat)
  case atStart => exact ⟨0, Nat.zero_le _, rfl, fun i h => by omega⟩
  case round =>
    obtain ⟨k, hk, rfl, hall⟩ := hrel
    have HALL := Lib.hid hall
    clear hall
    by_cases h1 : k < s.size
    · have h1I : (k : Int) < (s.size : Int) := by omega
      have hk0 : (0 : Int) ≤ (k : Int) := by omega
      have hg : s.data.toList.getD k 0 = s[k]'h1 := by rw [List.getD_eq_getElem?_getD, List.getElem?_eq_getElem (by rw [len_size]; exact h1)]; rfl
      have hlt := (s[k]'h1).toNat_lt
      by_cases g1 : ((s[k]'h1).toNat : Int) < 33
      · have HF : Hid (q = false) := Lib.hid (by
          rw [HQ.out]
          unfold onlyN
          rw [Bool.eq_false_iff]
          intro h
          have := List.all_eq_true.1 h (s[k]'h1) (by rw [← hg, List.getD_eq_getElem?_getD, List.getElem?_eq_getElem (by rw [len_size]; exact h1)]; exact List.getElem_mem _)
          simp at this
          omega)
        clear hg
        go_wp2
        go_ret
        rw [HF.out]
        exact ⟨rfl, rfl⟩
      · by_cases g2 : (126 : Int) < ((s[k]'h1).toNat : Int)
        · have HF : Hid (q = false) := Lib.hid (by
            rw [HQ.out]
            unfold onlyN
            rw [Bool.eq_false_iff]
            intro h
            have := List.all_eq_true.1 h (s[k]'h1) (by rw [← hg, List.getD_eq_getElem?_getD, List.getElem?_eq_getElem (by rw [len_size]; exact h1)]; exact List.getElem_mem _)
            simp at this
            omega)
          clear hg
          go_wp2
          go_ret
          rw [HF.out]
          exact ⟨rfl, rfl⟩
        · have HA2 : Hid (∀ i, i < k + 1 → (33 ≤ (s.data.toList.getD i 0).toNat ∧ (s.data.toList.getD i 0).toNat ≤ 126)) := Lib.hid fun i hi => by
            rcases Nat.lt_or_ge i k with h | h
            · exact HALL.out i h
            · obtain rfl : i = k := by omega
              rw [hg]
              omega
          clear hg
          go_wp2
          go_round
          case rel => exact ⟨k + 1, by omega, by go_num, HA2.out⟩
          case measure => simp [intOf]; omega
    · obtain rfl : k = s.size := by omega
      have HT : Hid (q = true) := Lib.hid (by
        rw [HQ.out]
        unfold onlyN
        rw [List.all_eq_true]
        intro c hc
        obtain ⟨i, hi, e⟩ := List.mem_iff_getElem.1 hc
        have := HALL.out i (by rw [len_size] at hi; exact hi)
        rw [show s.data.toList.getD i 0 = c by rw [← e, List.getD_eq_getElem?_getD, List.getElem?_eq_getElem hi]; rfl] at this
        simp [this.1, this.2])
      go_wp2
      go_ret
      rw [HT.out]
      exact ⟨rfl, rfl⟩
end Go.Proofs.YtoombjbpblighabDoor
