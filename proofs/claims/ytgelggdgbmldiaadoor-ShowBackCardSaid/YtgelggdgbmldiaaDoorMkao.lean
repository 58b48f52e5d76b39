/-
  Layer 3: the program's Level and kind. Written by an AI agent.
  Layer 3: the program's text of an expression. Written by an AI agent.
-/
import Derived.Maps.Own
import Derived.Maps.OwnOps
import Derived.StringKeys
import Derived.Test.YtgelggdgbmldiaaDoorMkan
namespace Go.Proofs.YtgelggdgbmldiaaDoor
open Go Go.RowKit Go.Shelf Go.Maps
set_option linter.unusedVariables false
set_option linter.unusedSimpArgs false
/-- A literal of a map, key by key. -/
theorem wpList_insert_own {H : Type} {P : Program} (w : World) {ops : Array Oper} {rest : List Oper} {o : Oper} {a : Act} {Q : Exit → Act → World → Prop}
    (hg : o.guard = none) (m x v : Operand) (t : TypeId) (hop : o.op = Op.insert t m x v)
    (k e : TypeId) (K : Keyed P k) (ht : P.underlying t = some (.map k e)) (R : Value → Option (DataW H × List MemPlace)) (b n : Nat) (D : DataW H)
    (hm : a.eval m = .map (some b)) (hown : w.ownsMap P k R b n D) (hn : n < maxLen) (key val : Value) (kl : Lit) (hx : a.eval x = key) (hv : a.eval v = val) (hkey : keyOf P k key = some kl)
    (d : DataW H) (ps : List MemPlace) (hval : R val = some (d, ps))
    (hK : ∀ w', w'.ownsMap P k R b (n + 1) (D.put kl d) → w.grownBy w' (some b) → wpList P ops Q rest (a.put o.dst undef) w') :
    wpList P ops Q (o :: rest) a w := by
  refine wpList_plain hg fun K' hK' => ?_
  obtain ⟨w', hrun, r1, r2⟩ := hown.update K ht hn hkey hval
  unfold Oper.wp
  simp [execOp, hop, hm, hx, hv, hrun, Result.andThen]
  exact hK' _ _ (hK w' r1 r2)
theorem lawS : Keyed Tryd.prog 9 := string_keyed Tryd.underlying9
theorem zeroI (w : World) : (zeroValue 3).run Tryd.prog w = .ok (.int .i64 0) w := by kernel_rfl
section
variable (k ln n : Int) (sv : ByteArray) (a : Option Addr) (len c : Nat) (w : World)
set_option maxRecDepth 100000 in
set_option maxHeartbeats 8000000 in
theorem plev_seven : Calls Tryd.prog 18 #[.agg #[.int .i64 7, .int .i64 ln, .int .i64 n, .string sv, .slice a len c]] w fun r w' => r = .returned (.int .i64 5) ∧ Keeps (fun _ => False) w w' := by
  go_enter Tryd.func18, Tryd.ntmps18
  go_upto_region 1 with fail
  have ka := Keeps.one w (.cells #[.int .i64 7, .int .i64 ln, .int .i64 n, .string sv, .slice a len c] 33)
  have z := Loc.new (w := w) (R := fun _ => False) (fun h => h) [.int .i64 7, .int .i64 ln, .int .i64 n, .string sv, .slice a len c] 33
  have z0 := z.cells 0 _ rfl
  go_wp2_with fail
  all_goals go_ret
  all_goals exact ⟨rfl, ka⟩
set_option maxRecDepth 100000 in
set_option maxHeartbeats 8000000 in
theorem plev_eight : Calls Tryd.prog 18 #[.agg #[.int .i64 8, .int .i64 ln, .int .i64 n, .string sv, .slice a len c]] w fun r w' => r = .returned (.int .i64 5) ∧ Keeps (fun _ => False) w w' := by
  go_enter Tryd.func18, Tryd.ntmps18
  go_upto_region 1 with fail
  have ka := Keeps.one w (.cells #[.int .i64 8, .int .i64 ln, .int .i64 n, .string sv, .slice a len c] 33)
  have z := Loc.new (w := w) (R := fun _ => False) (fun h => h) [.int .i64 8, .int .i64 ln, .int .i64 n, .string sv, .slice a len c] 33
  have z0 := z.cells 0 _ rfl
  go_wp2_with fail
  all_goals go_ret
  all_goals exact ⟨rfl, ka⟩
set_option maxRecDepth 100000 in
set_option maxHeartbeats 8000000 in
theorem plev_other (h7 : ¬ k = 7) (h8 : ¬ k = 8) (h9 : ¬ k = 9) : Calls Tryd.prog 18 #[.agg #[.int .i64 k, .int .i64 ln, .int .i64 n, .string sv, .slice a len c]] w fun r w' => r = .returned (.int .i64 6) ∧ Keeps (fun _ => False) w w' := by
  have e7 : (k == 7) = false := by simpa using h7
  have e8 : (k == 8) = false := by simpa using h8
  have e9 : (k == 9) = false := by simpa using h9
  go_enter Tryd.func18, Tryd.ntmps18
  go_upto_region 1 with fail
  have ka := Keeps.one w (.cells #[.int .i64 k, .int .i64 ln, .int .i64 n, .string sv, .slice a len c] 33)
  have z := Loc.new (w := w) (R := fun _ => False) (fun h => h) [.int .i64 k, .int .i64 ln, .int .i64 n, .string sv, .slice a len c] 33
  have z0 := z.cells 0 _ rfl
  go_wp2_with fail
  all_goals go_ret
  all_goals exact ⟨rfl, ka⟩
set_option maxRecDepth 100000 in
set_option maxHeartbeats 8000000 in
theorem plev_s0 : Calls Tryd.prog 18 #[.agg #[.int .i64 9, .int .i64 ln, .int .i64 n, .string { data := #[124, 124] }, .slice a len c]] w fun r w' => r = .returned (.int .i64 0) ∧ Keeps (fun _ => False) w w' := by
  go_enter Tryd.func18, Tryd.ntmps18
  go_upto_region 1 with fail
  have ka := Keeps.one w (.cells #[.int .i64 9, .int .i64 ln, .int .i64 n, .string { data := #[124, 124] }, .slice a len c] 33)
  have z := Loc.new (w := w) (R := fun _ => False) (fun h => h) [.int .i64 9, .int .i64 ln, .int .i64 n, .string { data := #[124, 124] }, .slice a len c] 33
  obtain ⟨w1, hw1⟩ : ∃ w1, w1 = w.alloc (.cells #[.int .i64 9, .int .i64 ln, .int .i64 n, .string { data := #[124, 124] }, .slice a len c] 33) := ⟨_, rfl⟩
  have z : Loc w1 (fun _ => False) w.heap.size [.int .i64 9, .int .i64 ln, .int .i64 n, .string { data := #[124, 124] }, .slice a len c] := by rw [hw1]; exact z
  obtain ⟨P, hP⟩ : ∃ P, P = w.heap.size := ⟨_, rfl⟩
  rw [← hP] at z
  rw [← hP]
  rw [← hw1] at ka ⊢
  have KA := Lib.hid ka
  have Z := Lib.hid z
  have HPlt := Lib.hid z.lt
  clear ka z hw1 hP
  have hmm := @run_makeMap Tryd.prog
  have hown : (w1.alloc (.map #[] 0)).ownsMap Tryd.prog 9 (plainElem (H := Unit) Tryd.prog 3) w1.heap.size 0 (.map []) := World.ownsMap_made _ _ _ _
  have hk : Keeps (fun _ => False) w1 (w1.alloc (.map #[] 0)) := (Keeps.refl _ _).alloc _
  have z0 := Z.out.cells 0 _ rfl
  go_upto_region 3 with fail
  clear z0
  go_wp2_with (first
    | (at_lookup; have z3 := (hk.cell HPlt.out (fun h => h)).trans (Z.out.cells 3 _ rfl); refine wpList_lookup_own_int _ rfl _ _ 64 rfl 9 3 .i64 lawS Tryd.underlying64 Tryd.underlying3 (zeroI _) _ _ _ rfl hown _ _ rfl (Go.WideMaps.keyOf_string_mk Tryd.underlying9 (by decide)) ?_; intro cc hat hwc)
    | (refine wpList_insert_own _ rfl _ _ _ 64 rfl 9 3 lawS Tryd.underlying64 _ _ _ _ rfl hown (by unfold maxLen; omega) _ _ _ rfl rfl (Go.WideMaps.keyOf_string_mk Tryd.underlying9 (by decide)) _ [] (plainElem_int Tryd.underlying3 (WalkArith.wf_i64 (by omega))) ?_
       intro w2 hown1 hg1
       replace hk := hk.grown hg1 (fun k e h => by cases e; exact absurd h (Nat.lt_irrefl _))
       replace hown := hown1
       have z3 := (hk.cell HPlt.out (fun h => h)).trans (Z.out.cells 3 _ rfl)
       clear hg1 hown1)
    | go_in)
  have hc : (0 : Int) = cc := by
    have e : DataW.lit (.int .i64 0) = DataW.lit (H := Unit) (.int .i64 cc) := hat
    injection e with e
    injection e
  go_ret
  exact ⟨by rw [hc]; rfl, KA.out.trans hk (fun _ _ h => h)⟩
set_option maxRecDepth 100000 in
set_option maxHeartbeats 8000000 in
theorem plev_s1 : Calls Tryd.prog 18 #[.agg #[.int .i64 9, .int .i64 ln, .int .i64 n, .string { data := #[38, 38] }, .slice a len c]] w fun r w' => r = .returned (.int .i64 1) ∧ Keeps (fun _ => False) w w' := by
  go_enter Tryd.func18, Tryd.ntmps18
  go_upto_region 1 with fail
  have ka := Keeps.one w (.cells #[.int .i64 9, .int .i64 ln, .int .i64 n, .string { data := #[38, 38] }, .slice a len c] 33)
  have z := Loc.new (w := w) (R := fun _ => False) (fun h => h) [.int .i64 9, .int .i64 ln, .int .i64 n, .string { data := #[38, 38] }, .slice a len c] 33
  obtain ⟨w1, hw1⟩ : ∃ w1, w1 = w.alloc (.cells #[.int .i64 9, .int .i64 ln, .int .i64 n, .string { data := #[38, 38] }, .slice a len c] 33) := ⟨_, rfl⟩
  have z : Loc w1 (fun _ => False) w.heap.size [.int .i64 9, .int .i64 ln, .int .i64 n, .string { data := #[38, 38] }, .slice a len c] := by rw [hw1]; exact z
  obtain ⟨P, hP⟩ : ∃ P, P = w.heap.size := ⟨_, rfl⟩
  rw [← hP] at z
  rw [← hP]
  rw [← hw1] at ka ⊢
  have KA := Lib.hid ka
  have Z := Lib.hid z
  have HPlt := Lib.hid z.lt
  clear ka z hw1 hP
  have hmm := @run_makeMap Tryd.prog
  have hown : (w1.alloc (.map #[] 0)).ownsMap Tryd.prog 9 (plainElem (H := Unit) Tryd.prog 3) w1.heap.size 0 (.map []) := World.ownsMap_made _ _ _ _
  have hk : Keeps (fun _ => False) w1 (w1.alloc (.map #[] 0)) := (Keeps.refl _ _).alloc _
  have z0 := Z.out.cells 0 _ rfl
  go_upto_region 3 with fail
  clear z0
  go_wp2_with (first
    | (at_lookup; have z3 := (hk.cell HPlt.out (fun h => h)).trans (Z.out.cells 3 _ rfl); refine wpList_lookup_own_int _ rfl _ _ 64 rfl 9 3 .i64 lawS Tryd.underlying64 Tryd.underlying3 (zeroI _) _ _ _ rfl hown _ _ rfl (Go.WideMaps.keyOf_string_mk Tryd.underlying9 (by decide)) ?_; intro cc hat hwc)
    | (refine wpList_insert_own _ rfl _ _ _ 64 rfl 9 3 lawS Tryd.underlying64 _ _ _ _ rfl hown (by unfold maxLen; omega) _ _ _ rfl rfl (Go.WideMaps.keyOf_string_mk Tryd.underlying9 (by decide)) _ [] (plainElem_int Tryd.underlying3 (WalkArith.wf_i64 (by omega))) ?_
       intro w2 hown1 hg1
       replace hk := hk.grown hg1 (fun k e h => by cases e; exact absurd h (Nat.lt_irrefl _))
       replace hown := hown1
       have z3 := (hk.cell HPlt.out (fun h => h)).trans (Z.out.cells 3 _ rfl)
       clear hg1 hown1)
    | go_in)
  have hc : (1 : Int) = cc := by
    have e : DataW.lit (.int .i64 1) = DataW.lit (H := Unit) (.int .i64 cc) := hat
    injection e with e
    injection e
  go_ret
  exact ⟨by rw [hc]; rfl, KA.out.trans hk (fun _ _ h => h)⟩
set_option maxRecDepth 100000 in
set_option maxHeartbeats 8000000 in
theorem plev_s2 : Calls Tryd.prog 18 #[.agg #[.int .i64 9, .int .i64 ln, .int .i64 n, .string { data := #[60] }, .slice a len c]] w fun r w' => r = .returned (.int .i64 2) ∧ Keeps (fun _ => False) w w' := by
  go_enter Tryd.func18, Tryd.ntmps18
  go_upto_region 1 with fail
  have ka := Keeps.one w (.cells #[.int .i64 9, .int .i64 ln, .int .i64 n, .string { data := #[60] }, .slice a len c] 33)
  have z := Loc.new (w := w) (R := fun _ => False) (fun h => h) [.int .i64 9, .int .i64 ln, .int .i64 n, .string { data := #[60] }, .slice a len c] 33
  obtain ⟨w1, hw1⟩ : ∃ w1, w1 = w.alloc (.cells #[.int .i64 9, .int .i64 ln, .int .i64 n, .string { data := #[60] }, .slice a len c] 33) := ⟨_, rfl⟩
  have z : Loc w1 (fun _ => False) w.heap.size [.int .i64 9, .int .i64 ln, .int .i64 n, .string { data := #[60] }, .slice a len c] := by rw [hw1]; exact z
  obtain ⟨P, hP⟩ : ∃ P, P = w.heap.size := ⟨_, rfl⟩
  rw [← hP] at z
  rw [← hP]
  rw [← hw1] at ka ⊢
  have KA := Lib.hid ka
  have Z := Lib.hid z
  have HPlt := Lib.hid z.lt
  clear ka z hw1 hP
  have hmm := @run_makeMap Tryd.prog
  have hown : (w1.alloc (.map #[] 0)).ownsMap Tryd.prog 9 (plainElem (H := Unit) Tryd.prog 3) w1.heap.size 0 (.map []) := World.ownsMap_made _ _ _ _
  have hk : Keeps (fun _ => False) w1 (w1.alloc (.map #[] 0)) := (Keeps.refl _ _).alloc _
  have z0 := Z.out.cells 0 _ rfl
  go_upto_region 3 with fail
  clear z0
  go_wp2_with (first
    | (at_lookup; have z3 := (hk.cell HPlt.out (fun h => h)).trans (Z.out.cells 3 _ rfl); refine wpList_lookup_own_int _ rfl _ _ 64 rfl 9 3 .i64 lawS Tryd.underlying64 Tryd.underlying3 (zeroI _) _ _ _ rfl hown _ _ rfl (Go.WideMaps.keyOf_string_mk Tryd.underlying9 (by decide)) ?_; intro cc hat hwc)
    | (refine wpList_insert_own _ rfl _ _ _ 64 rfl 9 3 lawS Tryd.underlying64 _ _ _ _ rfl hown (by unfold maxLen; omega) _ _ _ rfl rfl (Go.WideMaps.keyOf_string_mk Tryd.underlying9 (by decide)) _ [] (plainElem_int Tryd.underlying3 (WalkArith.wf_i64 (by omega))) ?_
       intro w2 hown1 hg1
       replace hk := hk.grown hg1 (fun k e h => by cases e; exact absurd h (Nat.lt_irrefl _))
       replace hown := hown1
       have z3 := (hk.cell HPlt.out (fun h => h)).trans (Z.out.cells 3 _ rfl)
       clear hg1 hown1)
    | go_in)
  have hc : (2 : Int) = cc := by
    have e : DataW.lit (.int .i64 2) = DataW.lit (H := Unit) (.int .i64 cc) := hat
    injection e with e
    injection e
  go_ret
  exact ⟨by rw [hc]; rfl, KA.out.trans hk (fun _ _ h => h)⟩
set_option maxRecDepth 100000 in
set_option maxHeartbeats 8000000 in
theorem plev_s3 : Calls Tryd.prog 18 #[.agg #[.int .i64 9, .int .i64 ln, .int .i64 n, .string { data := #[60, 61] }, .slice a len c]] w fun r w' => r = .returned (.int .i64 2) ∧ Keeps (fun _ => False) w w' := by
  go_enter Tryd.func18, Tryd.ntmps18
  go_upto_region 1 with fail
  have ka := Keeps.one w (.cells #[.int .i64 9, .int .i64 ln, .int .i64 n, .string { data := #[60, 61] }, .slice a len c] 33)
  have z := Loc.new (w := w) (R := fun _ => False) (fun h => h) [.int .i64 9, .int .i64 ln, .int .i64 n, .string { data := #[60, 61] }, .slice a len c] 33
  obtain ⟨w1, hw1⟩ : ∃ w1, w1 = w.alloc (.cells #[.int .i64 9, .int .i64 ln, .int .i64 n, .string { data := #[60, 61] }, .slice a len c] 33) := ⟨_, rfl⟩
  have z : Loc w1 (fun _ => False) w.heap.size [.int .i64 9, .int .i64 ln, .int .i64 n, .string { data := #[60, 61] }, .slice a len c] := by rw [hw1]; exact z
  obtain ⟨P, hP⟩ : ∃ P, P = w.heap.size := ⟨_, rfl⟩
  rw [← hP] at z
  rw [← hP]
  rw [← hw1] at ka ⊢
  have KA := Lib.hid ka
  have Z := Lib.hid z
  have HPlt := Lib.hid z.lt
  clear ka z hw1 hP
  have hmm := @run_makeMap Tryd.prog
  have hown : (w1.alloc (.map #[] 0)).ownsMap Tryd.prog 9 (plainElem (H := Unit) Tryd.prog 3) w1.heap.size 0 (.map []) := World.ownsMap_made _ _ _ _
  have hk : Keeps (fun _ => False) w1 (w1.alloc (.map #[] 0)) := (Keeps.refl _ _).alloc _
  have z0 := Z.out.cells 0 _ rfl
  go_upto_region 3 with fail
  clear z0
  go_wp2_with (first
    | (at_lookup; have z3 := (hk.cell HPlt.out (fun h => h)).trans (Z.out.cells 3 _ rfl); refine wpList_lookup_own_int _ rfl _ _ 64 rfl 9 3 .i64 lawS Tryd.underlying64 Tryd.underlying3 (zeroI _) _ _ _ rfl hown _ _ rfl (Go.WideMaps.keyOf_string_mk Tryd.underlying9 (by decide)) ?_; intro cc hat hwc)
    | (refine wpList_insert_own _ rfl _ _ _ 64 rfl 9 3 lawS Tryd.underlying64 _ _ _ _ rfl hown (by unfold maxLen; omega) _ _ _ rfl rfl (Go.WideMaps.keyOf_string_mk Tryd.underlying9 (by decide)) _ [] (plainElem_int Tryd.underlying3 (WalkArith.wf_i64 (by omega))) ?_
       intro w2 hown1 hg1
       replace hk := hk.grown hg1 (fun k e h => by cases e; exact absurd h (Nat.lt_irrefl _))
       replace hown := hown1
       have z3 := (hk.cell HPlt.out (fun h => h)).trans (Z.out.cells 3 _ rfl)
       clear hg1 hown1)
    | go_in)
  have hc : (2 : Int) = cc := by
    have e : DataW.lit (.int .i64 2) = DataW.lit (H := Unit) (.int .i64 cc) := hat
    injection e with e
    injection e
  go_ret
  exact ⟨by rw [hc]; rfl, KA.out.trans hk (fun _ _ h => h)⟩
set_option maxRecDepth 100000 in
set_option maxHeartbeats 8000000 in
theorem plev_s4 : Calls Tryd.prog 18 #[.agg #[.int .i64 9, .int .i64 ln, .int .i64 n, .string { data := #[61, 61] }, .slice a len c]] w fun r w' => r = .returned (.int .i64 2) ∧ Keeps (fun _ => False) w w' := by
  go_enter Tryd.func18, Tryd.ntmps18
  go_upto_region 1 with fail
  have ka := Keeps.one w (.cells #[.int .i64 9, .int .i64 ln, .int .i64 n, .string { data := #[61, 61] }, .slice a len c] 33)
  have z := Loc.new (w := w) (R := fun _ => False) (fun h => h) [.int .i64 9, .int .i64 ln, .int .i64 n, .string { data := #[61, 61] }, .slice a len c] 33
  obtain ⟨w1, hw1⟩ : ∃ w1, w1 = w.alloc (.cells #[.int .i64 9, .int .i64 ln, .int .i64 n, .string { data := #[61, 61] }, .slice a len c] 33) := ⟨_, rfl⟩
  have z : Loc w1 (fun _ => False) w.heap.size [.int .i64 9, .int .i64 ln, .int .i64 n, .string { data := #[61, 61] }, .slice a len c] := by rw [hw1]; exact z
  obtain ⟨P, hP⟩ : ∃ P, P = w.heap.size := ⟨_, rfl⟩
  rw [← hP] at z
  rw [← hP]
  rw [← hw1] at ka ⊢
  have KA := Lib.hid ka
  have Z := Lib.hid z
  have HPlt := Lib.hid z.lt
  clear ka z hw1 hP
  have hmm := @run_makeMap Tryd.prog
  have hown : (w1.alloc (.map #[] 0)).ownsMap Tryd.prog 9 (plainElem (H := Unit) Tryd.prog 3) w1.heap.size 0 (.map []) := World.ownsMap_made _ _ _ _
  have hk : Keeps (fun _ => False) w1 (w1.alloc (.map #[] 0)) := (Keeps.refl _ _).alloc _
  have z0 := Z.out.cells 0 _ rfl
  go_upto_region 3 with fail
  clear z0
  go_wp2_with (first
    | (at_lookup; have z3 := (hk.cell HPlt.out (fun h => h)).trans (Z.out.cells 3 _ rfl); refine wpList_lookup_own_int _ rfl _ _ 64 rfl 9 3 .i64 lawS Tryd.underlying64 Tryd.underlying3 (zeroI _) _ _ _ rfl hown _ _ rfl (Go.WideMaps.keyOf_string_mk Tryd.underlying9 (by decide)) ?_; intro cc hat hwc)
    | (refine wpList_insert_own _ rfl _ _ _ 64 rfl 9 3 lawS Tryd.underlying64 _ _ _ _ rfl hown (by unfold maxLen; omega) _ _ _ rfl rfl (Go.WideMaps.keyOf_string_mk Tryd.underlying9 (by decide)) _ [] (plainElem_int Tryd.underlying3 (WalkArith.wf_i64 (by omega))) ?_
       intro w2 hown1 hg1
       replace hk := hk.grown hg1 (fun k e h => by cases e; exact absurd h (Nat.lt_irrefl _))
       replace hown := hown1
       have z3 := (hk.cell HPlt.out (fun h => h)).trans (Z.out.cells 3 _ rfl)
       clear hg1 hown1)
    | go_in)
  have hc : (2 : Int) = cc := by
    have e : DataW.lit (.int .i64 2) = DataW.lit (H := Unit) (.int .i64 cc) := hat
    injection e with e
    injection e
  go_ret
  exact ⟨by rw [hc]; rfl, KA.out.trans hk (fun _ _ h => h)⟩
set_option maxRecDepth 100000 in
set_option maxHeartbeats 8000000 in
theorem plev_s5 : Calls Tryd.prog 18 #[.agg #[.int .i64 9, .int .i64 ln, .int .i64 n, .string { data := #[33, 61] }, .slice a len c]] w fun r w' => r = .returned (.int .i64 2) ∧ Keeps (fun _ => False) w w' := by
  go_enter Tryd.func18, Tryd.ntmps18
  go_upto_region 1 with fail
  have ka := Keeps.one w (.cells #[.int .i64 9, .int .i64 ln, .int .i64 n, .string { data := #[33, 61] }, .slice a len c] 33)
  have z := Loc.new (w := w) (R := fun _ => False) (fun h => h) [.int .i64 9, .int .i64 ln, .int .i64 n, .string { data := #[33, 61] }, .slice a len c] 33
  obtain ⟨w1, hw1⟩ : ∃ w1, w1 = w.alloc (.cells #[.int .i64 9, .int .i64 ln, .int .i64 n, .string { data := #[33, 61] }, .slice a len c] 33) := ⟨_, rfl⟩
  have z : Loc w1 (fun _ => False) w.heap.size [.int .i64 9, .int .i64 ln, .int .i64 n, .string { data := #[33, 61] }, .slice a len c] := by rw [hw1]; exact z
  obtain ⟨P, hP⟩ : ∃ P, P = w.heap.size := ⟨_, rfl⟩
  rw [← hP] at z
  rw [← hP]
  rw [← hw1] at ka ⊢
  have KA := Lib.hid ka
  have Z := Lib.hid z
  have HPlt := Lib.hid z.lt
  clear ka z hw1 hP
  have hmm := @run_makeMap Tryd.prog
  have hown : (w1.alloc (.map #[] 0)).ownsMap Tryd.prog 9 (plainElem (H := Unit) Tryd.prog 3) w1.heap.size 0 (.map []) := World.ownsMap_made _ _ _ _
  have hk : Keeps (fun _ => False) w1 (w1.alloc (.map #[] 0)) := (Keeps.refl _ _).alloc _
  have z0 := Z.out.cells 0 _ rfl
  go_upto_region 3 with fail
  clear z0
  go_wp2_with (first
    | (at_lookup; have z3 := (hk.cell HPlt.out (fun h => h)).trans (Z.out.cells 3 _ rfl); refine wpList_lookup_own_int _ rfl _ _ 64 rfl 9 3 .i64 lawS Tryd.underlying64 Tryd.underlying3 (zeroI _) _ _ _ rfl hown _ _ rfl (Go.WideMaps.keyOf_string_mk Tryd.underlying9 (by decide)) ?_; intro cc hat hwc)
    | (refine wpList_insert_own _ rfl _ _ _ 64 rfl 9 3 lawS Tryd.underlying64 _ _ _ _ rfl hown (by unfold maxLen; omega) _ _ _ rfl rfl (Go.WideMaps.keyOf_string_mk Tryd.underlying9 (by decide)) _ [] (plainElem_int Tryd.underlying3 (WalkArith.wf_i64 (by omega))) ?_
       intro w2 hown1 hg1
       replace hk := hk.grown hg1 (fun k e h => by cases e; exact absurd h (Nat.lt_irrefl _))
       replace hown := hown1
       have z3 := (hk.cell HPlt.out (fun h => h)).trans (Z.out.cells 3 _ rfl)
       clear hg1 hown1)
    | go_in)
  have hc : (2 : Int) = cc := by
    have e : DataW.lit (.int .i64 2) = DataW.lit (H := Unit) (.int .i64 cc) := hat
    injection e with e
    injection e
  go_ret
  exact ⟨by rw [hc]; rfl, KA.out.trans hk (fun _ _ h => h)⟩
set_option maxRecDepth 100000 in
set_option maxHeartbeats 8000000 in
theorem plev_s6 : Calls Tryd.prog 18 #[.agg #[.int .i64 9, .int .i64 ln, .int .i64 n, .string { data := #[43] }, .slice a len c]] w fun r w' => r = .returned (.int .i64 3) ∧ Keeps (fun _ => False) w w' := by
  go_enter Tryd.func18, Tryd.ntmps18
  go_upto_region 1 with fail
  have ka := Keeps.one w (.cells #[.int .i64 9, .int .i64 ln, .int .i64 n, .string { data := #[43] }, .slice a len c] 33)
  have z := Loc.new (w := w) (R := fun _ => False) (fun h => h) [.int .i64 9, .int .i64 ln, .int .i64 n, .string { data := #[43] }, .slice a len c] 33
  obtain ⟨w1, hw1⟩ : ∃ w1, w1 = w.alloc (.cells #[.int .i64 9, .int .i64 ln, .int .i64 n, .string { data := #[43] }, .slice a len c] 33) := ⟨_, rfl⟩
  have z : Loc w1 (fun _ => False) w.heap.size [.int .i64 9, .int .i64 ln, .int .i64 n, .string { data := #[43] }, .slice a len c] := by rw [hw1]; exact z
  obtain ⟨P, hP⟩ : ∃ P, P = w.heap.size := ⟨_, rfl⟩
  rw [← hP] at z
  rw [← hP]
  rw [← hw1] at ka ⊢
  have KA := Lib.hid ka
  have Z := Lib.hid z
  have HPlt := Lib.hid z.lt
  clear ka z hw1 hP
  have hmm := @run_makeMap Tryd.prog
  have hown : (w1.alloc (.map #[] 0)).ownsMap Tryd.prog 9 (plainElem (H := Unit) Tryd.prog 3) w1.heap.size 0 (.map []) := World.ownsMap_made _ _ _ _
  have hk : Keeps (fun _ => False) w1 (w1.alloc (.map #[] 0)) := (Keeps.refl _ _).alloc _
  have z0 := Z.out.cells 0 _ rfl
  go_upto_region 3 with fail
  clear z0
  go_wp2_with (first
    | (at_lookup; have z3 := (hk.cell HPlt.out (fun h => h)).trans (Z.out.cells 3 _ rfl); refine wpList_lookup_own_int _ rfl _ _ 64 rfl 9 3 .i64 lawS Tryd.underlying64 Tryd.underlying3 (zeroI _) _ _ _ rfl hown _ _ rfl (Go.WideMaps.keyOf_string_mk Tryd.underlying9 (by decide)) ?_; intro cc hat hwc)
    | (refine wpList_insert_own _ rfl _ _ _ 64 rfl 9 3 lawS Tryd.underlying64 _ _ _ _ rfl hown (by unfold maxLen; omega) _ _ _ rfl rfl (Go.WideMaps.keyOf_string_mk Tryd.underlying9 (by decide)) _ [] (plainElem_int Tryd.underlying3 (WalkArith.wf_i64 (by omega))) ?_
       intro w2 hown1 hg1
       replace hk := hk.grown hg1 (fun k e h => by cases e; exact absurd h (Nat.lt_irrefl _))
       replace hown := hown1
       have z3 := (hk.cell HPlt.out (fun h => h)).trans (Z.out.cells 3 _ rfl)
       clear hg1 hown1)
    | go_in)
  have hc : (3 : Int) = cc := by
    have e : DataW.lit (.int .i64 3) = DataW.lit (H := Unit) (.int .i64 cc) := hat
    injection e with e
    injection e
  go_ret
  exact ⟨by rw [hc]; rfl, KA.out.trans hk (fun _ _ h => h)⟩
set_option maxRecDepth 100000 in
set_option maxHeartbeats 8000000 in
theorem plev_s7 : Calls Tryd.prog 18 #[.agg #[.int .i64 9, .int .i64 ln, .int .i64 n, .string { data := #[45] }, .slice a len c]] w fun r w' => r = .returned (.int .i64 3) ∧ Keeps (fun _ => False) w w' := by
  go_enter Tryd.func18, Tryd.ntmps18
  go_upto_region 1 with fail
  have ka := Keeps.one w (.cells #[.int .i64 9, .int .i64 ln, .int .i64 n, .string { data := #[45] }, .slice a len c] 33)
  have z := Loc.new (w := w) (R := fun _ => False) (fun h => h) [.int .i64 9, .int .i64 ln, .int .i64 n, .string { data := #[45] }, .slice a len c] 33
  obtain ⟨w1, hw1⟩ : ∃ w1, w1 = w.alloc (.cells #[.int .i64 9, .int .i64 ln, .int .i64 n, .string { data := #[45] }, .slice a len c] 33) := ⟨_, rfl⟩
  have z : Loc w1 (fun _ => False) w.heap.size [.int .i64 9, .int .i64 ln, .int .i64 n, .string { data := #[45] }, .slice a len c] := by rw [hw1]; exact z
  obtain ⟨P, hP⟩ : ∃ P, P = w.heap.size := ⟨_, rfl⟩
  rw [← hP] at z
  rw [← hP]
  rw [← hw1] at ka ⊢
  have KA := Lib.hid ka
  have Z := Lib.hid z
  have HPlt := Lib.hid z.lt
  clear ka z hw1 hP
  have hmm := @run_makeMap Tryd.prog
  have hown : (w1.alloc (.map #[] 0)).ownsMap Tryd.prog 9 (plainElem (H := Unit) Tryd.prog 3) w1.heap.size 0 (.map []) := World.ownsMap_made _ _ _ _
  have hk : Keeps (fun _ => False) w1 (w1.alloc (.map #[] 0)) := (Keeps.refl _ _).alloc _
  have z0 := Z.out.cells 0 _ rfl
  go_upto_region 3 with fail
  clear z0
  go_wp2_with (first
    | (at_lookup; have z3 := (hk.cell HPlt.out (fun h => h)).trans (Z.out.cells 3 _ rfl); refine wpList_lookup_own_int _ rfl _ _ 64 rfl 9 3 .i64 lawS Tryd.underlying64 Tryd.underlying3 (zeroI _) _ _ _ rfl hown _ _ rfl (Go.WideMaps.keyOf_string_mk Tryd.underlying9 (by decide)) ?_; intro cc hat hwc)
    | (refine wpList_insert_own _ rfl _ _ _ 64 rfl 9 3 lawS Tryd.underlying64 _ _ _ _ rfl hown (by unfold maxLen; omega) _ _ _ rfl rfl (Go.WideMaps.keyOf_string_mk Tryd.underlying9 (by decide)) _ [] (plainElem_int Tryd.underlying3 (WalkArith.wf_i64 (by omega))) ?_
       intro w2 hown1 hg1
       replace hk := hk.grown hg1 (fun k e h => by cases e; exact absurd h (Nat.lt_irrefl _))
       replace hown := hown1
       have z3 := (hk.cell HPlt.out (fun h => h)).trans (Z.out.cells 3 _ rfl)
       clear hg1 hown1)
    | go_in)
  have hc : (3 : Int) = cc := by
    have e : DataW.lit (.int .i64 3) = DataW.lit (H := Unit) (.int .i64 cc) := hat
    injection e with e
    injection e
  go_ret
  exact ⟨by rw [hc]; rfl, KA.out.trans hk (fun _ _ h => h)⟩
set_option maxRecDepth 100000 in
set_option maxHeartbeats 8000000 in
theorem plev_s8 : Calls Tryd.prog 18 #[.agg #[.int .i64 9, .int .i64 ln, .int .i64 n, .string { data := #[42] }, .slice a len c]] w fun r w' => r = .returned (.int .i64 4) ∧ Keeps (fun _ => False) w w' := by
  go_enter Tryd.func18, Tryd.ntmps18
  go_upto_region 1 with fail
  have ka := Keeps.one w (.cells #[.int .i64 9, .int .i64 ln, .int .i64 n, .string { data := #[42] }, .slice a len c] 33)
  have z := Loc.new (w := w) (R := fun _ => False) (fun h => h) [.int .i64 9, .int .i64 ln, .int .i64 n, .string { data := #[42] }, .slice a len c] 33
  obtain ⟨w1, hw1⟩ : ∃ w1, w1 = w.alloc (.cells #[.int .i64 9, .int .i64 ln, .int .i64 n, .string { data := #[42] }, .slice a len c] 33) := ⟨_, rfl⟩
  have z : Loc w1 (fun _ => False) w.heap.size [.int .i64 9, .int .i64 ln, .int .i64 n, .string { data := #[42] }, .slice a len c] := by rw [hw1]; exact z
  obtain ⟨P, hP⟩ : ∃ P, P = w.heap.size := ⟨_, rfl⟩
  rw [← hP] at z
  rw [← hP]
  rw [← hw1] at ka ⊢
  have KA := Lib.hid ka
  have Z := Lib.hid z
  have HPlt := Lib.hid z.lt
  clear ka z hw1 hP
  have hmm := @run_makeMap Tryd.prog
  have hown : (w1.alloc (.map #[] 0)).ownsMap Tryd.prog 9 (plainElem (H := Unit) Tryd.prog 3) w1.heap.size 0 (.map []) := World.ownsMap_made _ _ _ _
  have hk : Keeps (fun _ => False) w1 (w1.alloc (.map #[] 0)) := (Keeps.refl _ _).alloc _
  have z0 := Z.out.cells 0 _ rfl
  go_upto_region 3 with fail
  clear z0
  go_wp2_with (first
    | (at_lookup; have z3 := (hk.cell HPlt.out (fun h => h)).trans (Z.out.cells 3 _ rfl); refine wpList_lookup_own_int _ rfl _ _ 64 rfl 9 3 .i64 lawS Tryd.underlying64 Tryd.underlying3 (zeroI _) _ _ _ rfl hown _ _ rfl (Go.WideMaps.keyOf_string_mk Tryd.underlying9 (by decide)) ?_; intro cc hat hwc)
    | (refine wpList_insert_own _ rfl _ _ _ 64 rfl 9 3 lawS Tryd.underlying64 _ _ _ _ rfl hown (by unfold maxLen; omega) _ _ _ rfl rfl (Go.WideMaps.keyOf_string_mk Tryd.underlying9 (by decide)) _ [] (plainElem_int Tryd.underlying3 (WalkArith.wf_i64 (by omega))) ?_
       intro w2 hown1 hg1
       replace hk := hk.grown hg1 (fun k e h => by cases e; exact absurd h (Nat.lt_irrefl _))
       replace hown := hown1
       have z3 := (hk.cell HPlt.out (fun h => h)).trans (Z.out.cells 3 _ rfl)
       clear hg1 hown1)
    | go_in)
  have hc : (4 : Int) = cc := by
    have e : DataW.lit (.int .i64 4) = DataW.lit (H := Unit) (.int .i64 cc) := hat
    injection e with e
    injection e
  go_ret
  exact ⟨by rw [hc]; rfl, KA.out.trans hk (fun _ _ h => h)⟩
set_option maxRecDepth 100000 in
set_option maxHeartbeats 8000000 in
theorem plev_s9 : Calls Tryd.prog 18 #[.agg #[.int .i64 9, .int .i64 ln, .int .i64 n, .string { data := #[47] }, .slice a len c]] w fun r w' => r = .returned (.int .i64 4) ∧ Keeps (fun _ => False) w w' := by
  go_enter Tryd.func18, Tryd.ntmps18
  go_upto_region 1 with fail
  have ka := Keeps.one w (.cells #[.int .i64 9, .int .i64 ln, .int .i64 n, .string { data := #[47] }, .slice a len c] 33)
  have z := Loc.new (w := w) (R := fun _ => False) (fun h => h) [.int .i64 9, .int .i64 ln, .int .i64 n, .string { data := #[47] }, .slice a len c] 33
  obtain ⟨w1, hw1⟩ : ∃ w1, w1 = w.alloc (.cells #[.int .i64 9, .int .i64 ln, .int .i64 n, .string { data := #[47] }, .slice a len c] 33) := ⟨_, rfl⟩
  have z : Loc w1 (fun _ => False) w.heap.size [.int .i64 9, .int .i64 ln, .int .i64 n, .string { data := #[47] }, .slice a len c] := by rw [hw1]; exact z
  obtain ⟨P, hP⟩ : ∃ P, P = w.heap.size := ⟨_, rfl⟩
  rw [← hP] at z
  rw [← hP]
  rw [← hw1] at ka ⊢
  have KA := Lib.hid ka
  have Z := Lib.hid z
  have HPlt := Lib.hid z.lt
  clear ka z hw1 hP
  have hmm := @run_makeMap Tryd.prog
  have hown : (w1.alloc (.map #[] 0)).ownsMap Tryd.prog 9 (plainElem (H := Unit) Tryd.prog 3) w1.heap.size 0 (.map []) := World.ownsMap_made _ _ _ _
  have hk : Keeps (fun _ => False) w1 (w1.alloc (.map #[] 0)) := (Keeps.refl _ _).alloc _
  have z0 := Z.out.cells 0 _ rfl
  go_upto_region 3 with fail
  clear z0
  go_wp2_with (first
    | (at_lookup; have z3 := (hk.cell HPlt.out (fun h => h)).trans (Z.out.cells 3 _ rfl); refine wpList_lookup_own_int _ rfl _ _ 64 rfl 9 3 .i64 lawS Tryd.underlying64 Tryd.underlying3 (zeroI _) _ _ _ rfl hown _ _ rfl (Go.WideMaps.keyOf_string_mk Tryd.underlying9 (by decide)) ?_; intro cc hat hwc)
    | (refine wpList_insert_own _ rfl _ _ _ 64 rfl 9 3 lawS Tryd.underlying64 _ _ _ _ rfl hown (by unfold maxLen; omega) _ _ _ rfl rfl (Go.WideMaps.keyOf_string_mk Tryd.underlying9 (by decide)) _ [] (plainElem_int Tryd.underlying3 (WalkArith.wf_i64 (by omega))) ?_
       intro w2 hown1 hg1
       replace hk := hk.grown hg1 (fun k e h => by cases e; exact absurd h (Nat.lt_irrefl _))
       replace hown := hown1
       have z3 := (hk.cell HPlt.out (fun h => h)).trans (Z.out.cells 3 _ rfl)
       clear hg1 hown1)
    | go_in)
  have hc : (4 : Int) = cc := by
    have e : DataW.lit (.int .i64 4) = DataW.lit (H := Unit) (.int .i64 cc) := hat
    injection e with e
    injection e
  go_ret
  exact ⟨by rw [hc]; rfl, KA.out.trans hk (fun _ _ h => h)⟩
set_option maxRecDepth 100000 in
set_option maxHeartbeats 8000000 in
theorem plev_s10 : Calls Tryd.prog 18 #[.agg #[.int .i64 9, .int .i64 ln, .int .i64 n, .string { data := #[37] }, .slice a len c]] w fun r w' => r = .returned (.int .i64 4) ∧ Keeps (fun _ => False) w w' := by
  go_enter Tryd.func18, Tryd.ntmps18
  go_upto_region 1 with fail
  have ka := Keeps.one w (.cells #[.int .i64 9, .int .i64 ln, .int .i64 n, .string { data := #[37] }, .slice a len c] 33)
  have z := Loc.new (w := w) (R := fun _ => False) (fun h => h) [.int .i64 9, .int .i64 ln, .int .i64 n, .string { data := #[37] }, .slice a len c] 33
  obtain ⟨w1, hw1⟩ : ∃ w1, w1 = w.alloc (.cells #[.int .i64 9, .int .i64 ln, .int .i64 n, .string { data := #[37] }, .slice a len c] 33) := ⟨_, rfl⟩
  have z : Loc w1 (fun _ => False) w.heap.size [.int .i64 9, .int .i64 ln, .int .i64 n, .string { data := #[37] }, .slice a len c] := by rw [hw1]; exact z
  obtain ⟨P, hP⟩ : ∃ P, P = w.heap.size := ⟨_, rfl⟩
  rw [← hP] at z
  rw [← hP]
  rw [← hw1] at ka ⊢
  have KA := Lib.hid ka
  have Z := Lib.hid z
  have HPlt := Lib.hid z.lt
  clear ka z hw1 hP
  have hmm := @run_makeMap Tryd.prog
  have hown : (w1.alloc (.map #[] 0)).ownsMap Tryd.prog 9 (plainElem (H := Unit) Tryd.prog 3) w1.heap.size 0 (.map []) := World.ownsMap_made _ _ _ _
  have hk : Keeps (fun _ => False) w1 (w1.alloc (.map #[] 0)) := (Keeps.refl _ _).alloc _
  have z0 := Z.out.cells 0 _ rfl
  go_upto_region 3 with fail
  clear z0
  go_wp2_with (first
    | (at_lookup; have z3 := (hk.cell HPlt.out (fun h => h)).trans (Z.out.cells 3 _ rfl); refine wpList_lookup_own_int _ rfl _ _ 64 rfl 9 3 .i64 lawS Tryd.underlying64 Tryd.underlying3 (zeroI _) _ _ _ rfl hown _ _ rfl (Go.WideMaps.keyOf_string_mk Tryd.underlying9 (by decide)) ?_; intro cc hat hwc)
    | (refine wpList_insert_own _ rfl _ _ _ 64 rfl 9 3 lawS Tryd.underlying64 _ _ _ _ rfl hown (by unfold maxLen; omega) _ _ _ rfl rfl (Go.WideMaps.keyOf_string_mk Tryd.underlying9 (by decide)) _ [] (plainElem_int Tryd.underlying3 (WalkArith.wf_i64 (by omega))) ?_
       intro w2 hown1 hg1
       replace hk := hk.grown hg1 (fun k e h => by cases e; exact absurd h (Nat.lt_irrefl _))
       replace hown := hown1
       have z3 := (hk.cell HPlt.out (fun h => h)).trans (Z.out.cells 3 _ rfl)
       clear hg1 hown1)
    | go_in)
  have hc : (4 : Int) = cc := by
    have e : DataW.lit (.int .i64 4) = DataW.lit (H := Unit) (.int .i64 cc) := hat
    injection e with e
    injection e
  go_ret
  exact ⟨by rw [hc]; rfl, KA.out.trans hk (fun _ _ h => h)⟩
end
theorem plevel_any (k ln n : Int) (s : List UInt8) (a : Option Addr) (len c : Nat) (w : World) (h9 : k = 9 → s ∈ signs11) : Calls Tryd.prog 18 #[.agg #[.int .i64 k, .int .i64 ln, .int .i64 n, .string (ofL s), .slice a len c]] w fun r w' => r = .returned (.int .i64 (levK k s : Nat)) ∧ Keeps (fun _ => False) w w' := by
  by_cases e7 : k = 7
  · subst e7; exact plev_seven ln n (ofL s) a len c w
  by_cases e8 : k = 8
  · subst e8; exact plev_eight ln n (ofL s) a len c w
  by_cases e9 : k = 9
  · subst e9
    have h := h9 rfl
    simp only [signs11, List.mem_cons, List.not_mem_nil, or_false] at h
    rcases h with rfl | rfl | rfl | rfl | rfl | rfl | rfl | rfl | rfl | rfl | rfl
    · exact plev_s0 ln n a len c w
    · exact plev_s1 ln n a len c w
    · exact plev_s2 ln n a len c w
    · exact plev_s3 ln n a len c w
    · exact plev_s4 ln n a len c w
    · exact plev_s5 ln n a len c w
    · exact plev_s6 ln n a len c w
    · exact plev_s7 ln n a len c w
    · exact plev_s8 ln n a len c w
    · exact plev_s9 ln n a len c w
    · exact plev_s10 ln n a len c w
  · have e : levK k s = 6 := by unfold levK; rw [if_neg (by omega), if_neg e9]
    rw [e]
    exact plev_other k ln n (ofL s) a len c w e7 e8 e9
set_option maxHeartbeats 4000000 in
theorem pkind_0 (w : World) : Calls Tryd.prog 37 #[.int .i64 0] w fun r w' => r = .returned (.string (ofL (wordL 0))) ∧ Keeps (fun _ => False) w w' := by
  go_enter Tryd.func37, Tryd.ntmps37
  go_wp2_with fail
  all_goals go_ret
  all_goals exact ⟨rfl, Keeps.refl _ _⟩
set_option maxHeartbeats 4000000 in
theorem pkind_1 (w : World) : Calls Tryd.prog 37 #[.int .i64 1] w fun r w' => r = .returned (.string (ofL (wordL 1))) ∧ Keeps (fun _ => False) w w' := by
  go_enter Tryd.func37, Tryd.ntmps37
  go_wp2_with fail
  all_goals go_ret
  all_goals exact ⟨rfl, Keeps.refl _ _⟩
set_option maxHeartbeats 4000000 in
theorem pkind_2 (w : World) : Calls Tryd.prog 37 #[.int .i64 2] w fun r w' => r = .returned (.string (ofL (wordL 2))) ∧ Keeps (fun _ => False) w w' := by
  go_enter Tryd.func37, Tryd.ntmps37
  go_wp2_with fail
  all_goals go_ret
  all_goals exact ⟨rfl, Keeps.refl _ _⟩
set_option maxHeartbeats 4000000 in
theorem pkind_3 (w : World) : Calls Tryd.prog 37 #[.int .i64 3] w fun r w' => r = .returned (.string (ofL (wordL 3))) ∧ Keeps (fun _ => False) w w' := by
  go_enter Tryd.func37, Tryd.ntmps37
  go_wp2_with fail
  all_goals go_ret
  all_goals exact ⟨rfl, Keeps.refl _ _⟩
set_option maxHeartbeats 4000000 in
theorem pkind_4 (w : World) : Calls Tryd.prog 37 #[.int .i64 4] w fun r w' => r = .returned (.string (ofL (wordL 4))) ∧ Keeps (fun _ => False) w w' := by
  go_enter Tryd.func37, Tryd.ntmps37
  go_wp2_with fail
  all_goals go_ret
  all_goals exact ⟨rfl, Keeps.refl _ _⟩
theorem pkind_any (t : Int) (h0 : 0 ≤ t) (h4 : t ≤ 4) (w : World) : Calls Tryd.prog 37 #[.int .i64 t] w fun r w' => r = .returned (.string (ofL (wordL t))) ∧ Keeps (fun _ => False) w w' := by
  obtain rfl | rfl | rfl | rfl | rfl : t = 0 ∨ t = 1 ∨ t = 2 ∨ t = 3 ∨ t = 4 := by omega
  · exact pkind_0 w
  · exact pkind_1 w
  · exact pkind_2 w
  · exact pkind_3 w
  · exact pkind_4 w
end Go.Proofs.YtgelggdgbmldiaaDoor

namespace Go.Proofs.YtgelggdgbmldiaaDoor
open Go Go.RowKit Go.Shelf
set_option linter.unusedVariables false
set_option linter.unusedSimpArgs false
/-- What the program's Expr tells. -/
def PXC (Q : List UInt8 → Prop) (nd : List Nd) (fs : List Fnc) (A A' : Option Addr) (m k c c' : Nat) (e : Ex) : Prop :=
  ∀ (i : Int) (w : World), ShW w → TreeR 0 w A A' nd fs → RepE Q nd e i → Calls Tryd.prog 20 #[.agg #[.slice A m c, .slice A' k c'], .int .i64 i] w fun r w' => r = .returned (.string (ofL (showE e))) ∧ Keeps (fun _ => False) w w'
def PXR (Q : List UInt8 → Prop) (nd : List Nd) (fs : List Fnc) (A A' : Option Addr) (m k c c' : Nat) (e : Rt) : Prop :=
  ∀ (i : Int) (w : World), ShW w → TreeR 0 w A A' nd fs → RepR Q nd e i → Calls Tryd.prog 20 #[.agg #[.slice A m c, .slice A' k c'], .int .i64 i] w fun r w' => r = .returned (.string (ofL (showR e))) ∧ Keeps (fun _ => False) w w'
set_option maxRecDepth 100000 in
set_option maxHeartbeats 16000000 in
theorem side_any (Q : List UInt8 → Prop) (nd : List Nd) (fs : List Fnc) (A A' : Option Addr) (m k c c' : Nat) (hm : m = nd.length) (e : Ex) (hlen : (showE e).length ≤ 1000000) (hc : PXC Q nd fs A A' m k c c' e) (idx lv cnt cc b0 o0 P1 P2 : Nat) (x : Int) (hidx : idx < cnt) (hlv : lv ≤ 10) (w : World) (hw : ShW w) (hT : TreeR 0 w A A' nd fs) (hR : RepE Q nd e x)
    (hx0 : w.cell? ⟨P1, 0, none⟩ = some (.slice A m c)) (hx1 : w.cell? ⟨P1, 1, none⟩ = some (.slice A' k c')) (hy4 : w.cell? ⟨P2, 4, none⟩ = some (.slice (some ⟨b0, o0, none⟩) cnt cc)) (hkc : w.cell? ⟨b0, o0 + idx, none⟩ = some (.int .i64 x)) :
    Calls Tryd.prog 31 #[.int .i64 (idx : Int), .int .i64 (lv : Int), .pointer (some ⟨P2, 0, none⟩), .pointer (some ⟨P1, 0, none⟩)] w fun r w' => r = .returned (.string (ofL (parL (decide (lvE e < lv)) (showE e)))) ∧ Keeps (fun _ => False) w w' := by
  obtain ⟨kk, nn, s, l, ha, hk, h9⟩ := lev_of e x hR
  have HR := Lib.hid hR
  obtain ⟨j, b, off, ln, a, cc2, rfl, hj, rfl, hn⟩ := hT.node ha
  rw [← hm] at hj
  have hjI : (j : Int) < (m : Int) := by omega
  have hj0 : (0 : Int) ≤ (j : Int) := by omega
  have hiI : (idx : Int) < (cnt : Int) := by omega
  have hi0 : (0 : Int) ≤ (idx : Int) := by omega
  have HT := Lib.hid hT
  have HW := Lib.hid hw
  have HM := Lib.hid hm
  obtain ⟨ll, hll⟩ : ∃ n, n = l.length := ⟨_, rfl⟩
  have c0 := hn.c0
  have c1 := hn.c1
  have c2 := hn.c2
  have c3 := hn.c3
  have c4 := hn.c4
  rw [← hll] at c4
  have LC : Hid (∀ w', Calls Tryd.prog 18 #[.agg #[.int .i64 kk, .int .i64 ln, .int .i64 nn, .string (ofL s), .slice a ll cc2]] w' fun r w'' => r = .returned (.int .i64 (lvE e : Nat)) ∧ Keeps (fun _ => False) w' w'') := Lib.hid fun w' => by
    rw [← hk]
    exact plevel_any kk ln nn s a ll cc2 w' h9
  obtain ⟨S2, hS2⟩ : ∃ S, S = ofL (showE e) := ⟨_, rfl⟩
  have z2 : Hid (S2.size ≤ 1000000) := Lib.hid (by rw [hS2, ofL_size]; exact hlen)
  have HS2 := Lib.hid hS2
  have HC : Hid (∀ w', Keeps (fun _ => False) w w' → Calls Tryd.prog 20 #[.agg #[.slice (some ⟨b, off, none⟩) m c, .slice A' k c'], .int .i64 (j : Int)] w' fun r w'' => r = .returned (.string S2) ∧ Keeps (fun _ => False) w' w'') := Lib.hid fun w' q => by
    rw [HS2.out]
    exact hc _ w' (HW.out.keep q) (HT.out.keep q) HR.out
  clear hT hw ha hj hm hR hn hk h9 hc hlen hll hS2 hidx hlv
  generalize lvE e = le at LC ⊢
  go_enter Tryd.func31, Tryd.ntmps31
  have LD := Lib.hid (LC.out w)
  go_wp2_with fail
  refine LD.out.mono ?_
  rintro e w4 ⟨rfl, k4⟩
  have K4 := Lib.hid k4
  have x0 := (k4.cell (cell_ltk hx0) (fun h => h)).trans hx0
  have x1 := (k4.cell (cell_ltk hx1) (fun h => h)).trans hx1
  have CD := Lib.hid (HC.out w4 k4)
  clear k4 LD LC c0 c1 c2 c3 c4 hx0 hx1 hy4 hkc HC
  by_cases hlt : le < lv
  · have h1 : (le : Int) < (lv : Int) := by omega
    have h2 : decide ((le : Int) < (lv : Int)) = true := decide_eq_true h1
    have q1 : ¬ 9223372036854775807 < 1 + S2.size := by have := z2.out; omega
    have q2 : ¬ 9223372036854775807 < 1 + S2.size + 1 := by have := z2.out; omega
    have HM2 : Hid (({ data := #[40] } : ByteArray) ++ S2 ++ { data := #[41] } = ofL (parL (decide (le < lv)) (showE e))) := Lib.hid (of_list (by rw [HS2.out, decide_eq_true hlt]; simp [bap_list, ofL_list, parL]; done))
    clear hlt
    go_wp2_with fail
    refine CD.out.mono ?_
    rintro e w5 ⟨rfl, k5⟩
    have K5 := Lib.hid (K4.out.trans k5 (fun _ _ h => h))
    clear k5 CD x0 x1
    go_wp2_with fail
    go_ret
    exact ⟨by (rw [HM2.out]; first | done | rfl), K5.out⟩
  · have h1 : ¬ (le : Int) < (lv : Int) := by omega
    have h2 : decide ((le : Int) < (lv : Int)) = false := decide_eq_false h1
    have HM2 : Hid (S2 = ofL (parL (decide (le < lv)) (showE e))) := Lib.hid (by rw [HS2.out, decide_eq_false hlt]; rfl)
    clear hlt
    go_wp2_with fail
    refine CD.out.mono ?_
    rintro e w5 ⟨rfl, k5⟩
    have K5 := Lib.hid (K4.out.trans k5 (fun _ _ h => h))
    clear k5 CD x0 x1
    go_wp2_with fail
    go_ret
    exact ⟨by (rw [← HM2.out]; first | done | rfl), K5.out⟩
end Go.Proofs.YtgelggdgbmldiaaDoor
