/-
  Layer 1: the contract of the document's token at a place: numbers. Written by an AI agent.
  Layer 1: the contract of the document's token at a place: names. Written by an AI agent.
-/
import Derived.Lib.Bytealg
import Derived.Test.YtgelggdgbmldiaaDoorChecked
import Derived.Laws.OwnMore
import Derived.Laws.AppendOwnNone
import Derived.OwnWalk
import Derived.Lib.AppendZerosOnto
import Derived.Below
import Derived.Stop.Walk2
import Derived.WalkKit
import Derived.WalkLawsBesides
import Derived.WalkSpells
import Derived.Outline
import Derived.BigQuiet
import Derived.Deep.CutBlock
import Derived.Deep.CutRange
import Derived.Deep.DeepCutAuto
import Derived.Deep.RegionHeld3
import Derived.Deep.RegionLaw
import Derived.Deep.RegionWith
import Derived.StillTailTactics
import Derived.RegionTactic
import Derived.Laws.StructEq
import Derived.Lib.Hide
import Derived.Shelf.Abstract
import Derived.Shelf.Lay
import Derived.Ground.NamesProg
import Derived.Shelf.Strings.Prefix
import Derived.Shelf.Small.Strs
import Derived.Shelf.Strings.Count
import Derived.Shelf.Strconv.ErrVarParseInt
import Derived.WalkMore
import Derived.Scope
import Derived.Test.YtgelggdgbmldiaaDoorMcaa
import Derived.Test.YtgelggdgbmldiaaDoorMcac
import Derived.Test.YtgelggdgbmldiaaDoorMcad
import Derived.Test.YtgelggdgbmldiaaDoorMcag
import Derived.Test.YtgelggdgbmldiaaDoorMcat
import Derived.Test.YtgelggdgbmldiaaDoorMcbe
namespace Go.Proofs.YtgelggdgbmldiaaDoor
open Go.RowKit Go.Shelf
set_option linter.unusedVariables false
set_option linter.unusedSimpArgs false
theorem results_cell_tmp3 {fn : Func} {p u v : Tmp} {ty : TypeId} (h : fn.results = #[.cell p ty, .tmp u, .tmp v]) (tmps : Array Value) (P : Program) (w : World) :
    (results fn tmps).run P w =
      ((asAddr (tmps.getD p undef)).run P w).andThen fun a w₁ => ((loadVar ty a).run P w₁).andThen fun x w₂ => .ok (.tuple #[x, tmps.getD u undef, tmps.getD v undef]) w₂ := by
  simp only [results, h]
  simp [Sem.run_bind, Result.andThen]
theorem keeps_one {w wA : World} {pn : Nat} (h : Keeps (fun _ => False) w wA) (hp : pn = w.heap.size) (a b c : Value) :
    Keeps (fun _ => False) w (((wA.setCell ⟨pn, 0, none⟩ a).setCell ⟨pn, 1, none⟩ b).setCell ⟨pn, 2, none⟩ c) := by
  have hf : ∀ n : Nat, (⟨pn, n, none⟩ : Addr).block < w.heap.size → False := fun n h => by
    have h : pn < w.heap.size := h
    omega
  exact ((h.setCell (p := ⟨pn, 0, none⟩) (hf 0) a).setCell (p := ⟨pn, 1, none⟩) (hf 1) b).setCell (p := ⟨pn, 2, none⟩) (hf 2) c
/-- What the document's one tells of a place. -/
def OneR (l : List UInt8) (i : Nat) (w : World) (e : Ending) (w' : World) : Prop := (∃ (K : Nat) (X : ByteArray) (P en er : Nat), e = .returned (.tuple #[.agg #[.int .i64 (K : Int), .string X, .int .i64 (P : Int)], .int .i64 (en : Int), .int .i64 (er : Int)]) ∧
  er = (firstL (l.drop i)).2.2 ∧ (er = 0 → K = (firstL (l.drop i)).1 ∧ X.data.toList = saidL (firstL (l.drop i)).1 ((l.drop i).take (firstL (l.drop i)).2.1) ∧ P = i ∧ en = i + (firstL (l.drop i)).2.1)) ∧ Keeps (fun _ => False) w w'
set_option maxRecDepth 100000 in
set_option maxHeartbeats 8000000 in
theorem one_number (s : ByteArray) (hs : s.size ≤ 1000) (i : Nat) (hi : i < s.size) (hd : dig s[i] = true) (w : World) : Calls Tryd.prog 57 #[.string s, .int .i64 i] w (OneR s.data.toList i w) := by
  obtain ⟨l, hl⟩ : ∃ l : List UInt8, l = s.data.toList := ⟨_, rfl⟩
  have hlen : l.length = s.size := by rw [hl, len_size]
  rw [← hl]
  obtain ⟨r, hr⟩ : ∃ r, r = l.drop i := ⟨_, rfl⟩
  have hrc : r = s[i] :: l.drop (i + 1) := by rw [hr]; exact drop_at hl hi
  have hF : firstL r = numberL r := by rw [hrc, firstL_cons, if_pos hd]
  have hrl : r.length = s.size - i := by rw [hr, List.length_drop, hlen]
  have hiI : (i : Int) < (s.size : Int) := by omega
  have hi0 : (0 : Int) ≤ (i : Int) := by omega
  have DC : Hid (∀ (w : World) (c : UInt8), Calls Tryd.prog 86 #[.int .u8 (c.toNat : Int)] w fun e w' => e = .returned (.bool (dig c)) ∧ w' = w) := Lib.hid rdig
  have D0 : Hid (Calls Tryd.prog 86 #[.int .u8 (s[i].toNat : Int)] (w.alloc (.cells #[.int .i64 0, .string { data := #[] }, .int .i64 0] 54)) fun e w' => e = .returned (.bool true) ∧ w' = w.alloc (.cells #[.int .i64 0, .string { data := #[] }, .int .i64 0] 54)) := by
    have := DC.out (w.alloc (.cells #[.int .i64 0, .string { data := #[] }, .int .i64 0] 54)) s[i]
    rw [hd] at this
    exact this
  have HL := Lib.hid hl
  have HLN := Lib.hid hlen
  have HRr := Lib.hid hr
  have HF := Lib.hid hF
  have HRL := Lib.hid hrl
  clear hl hlen hr hrc hF hrl hd
  go_enter Tryd.func57, Tryd.ntmps57
  go_wp2_with fail
  refine D0.out.mono ?_
  rintro e w2 ⟨rfl, hw⟩
  generalize hwA : w.alloc _ = wA at hw ⊢
  obtain rfl : wA = w2 := hw.symm
  have kA : Keeps (fun _ => False) w wA := by rw [← hwA]; exact (Keeps.refl _ _).alloc _
  have c0 : wA.cell? ⟨w.heap.size, 0, none⟩ = some (.int .i64 0) := by rw [← hwA]; simp
  have c1 : wA.cell? ⟨w.heap.size, 1, none⟩ = some (.string { data := #[] }) := by rw [← hwA]; simp
  have c2 : wA.cell? ⟨w.heap.size, 2, none⟩ = some (.int .i64 0) := by rw [← hwA]; simp
  have f0 : wA.frozen? ⟨w.heap.size, 0, none⟩ = false := by rw [← hwA]; simp
  have f1 : wA.frozen? ⟨w.heap.size, 1, none⟩ = false := by rw [← hwA]; simp
  have f2 : wA.frozen? ⟨w.heap.size, 2, none⟩ = false := by rw [← hwA]; simp
  have KA := Lib.hid kA
  obtain ⟨pn, hpn⟩ : ∃ pn, pn = w.heap.size := ⟨_, rfl⟩
  rw [← hpn] at c0 c1 c2 f0 f1 f2 ⊢
  have HPN := Lib.hid hpn
  clear hw hwA kA D0 hpn
  go_wp2_with fail
  go_loopw [8] (fun s8 wr => ∃ (t P : Nat), P = i + t ∧ P ≤ s.size ∧ s8 = .int .i64 P ∧ t ≤ runL dig r ∧ wr = wA) (fun s8 _ => s.size + 1 - (intOf s8).toNat)
  case atStart => exact ⟨0, i, rfl, by omega, rfl, Nat.zero_le _, rfl⟩
  case round =>
    obtain ⟨t, P, hP, hPs, rfl, ht, hw⟩ := hrel
    obtain rfl : wA = wr := hw.symm
    clear hw
    obtain ⟨st1, st2⟩ := run_step ht
    by_cases hPN : P < s.size
    · have hPI : (P : Int) < (s.size : Int) := by omega
      have hPd : decide ((P : Int) < (s.size : Int)) = true := decide_eq_true hPI
      have hP0 : (0 : Int) ≤ (P : Int) := by omega
      have hc : r[t]? = some s[P] := by
        have h1 := at_drop s i t (by omega)
        rw [HRr.out, HL.out, h1]
        congr 1
        congr 1
        exact hP.symm
      have h2 := st1 _ hc
      have hC := DC.out wA s[P]
      clear hc st1 st2
      cases hb : dig s[P] with
      | true =>
        rw [hb] at hC h2
        have hte := h2.1 rfl
        have HC := Lib.hid hC
        have HP := Lib.hid hP
        clear hC h2 hb hP
        go_wp2_with fail
        refine HC.out.mono ?_
        rintro e w3 ⟨rfl, hw⟩
        obtain rfl : wA = w3 := hw.symm
        clear hw HC
        go_wp2
        go_roundw
        case rel => exact ⟨t + 1, P + 1, by have := HP.out; omega, by omega, by go_num, hte, by first | rfl | trivial⟩
        case measure => simp [intOf]; omega
      | false =>
        rw [hb] at hC h2
        have hte := h2.2 rfl
        have HC := Lib.hid hC
        have HPx := Lib.hid hP
        have HTx := Lib.hid hte
        clear hC h2 hb hP hte
        go_wp2_with fail
        refine HC.out.mono ?_
        rintro e w3 ⟨rfl, hw⟩
        obtain rfl : wA = w3 := hw.symm
        clear hw HC
        have hP := HPx.out
        have hte := HTx.out
        have hTl : (s.extract i P).data.toList = r.take t := by
          rw [ext_mid2, ← HL.out, ← HRr.out, show P - i = t by omega]
        have hTs : (s.extract i P).size = t := by
          rw [← len_size, hTl, List.length_take, HRL.out]
          omega
        have hall : ∀ c ∈ (s.extract i P).data.toList, dig c = true := by
          rw [hTl, hte]
          exact runL_all dig r
        have hNC := rnumber_any (s.extract i P) hall wA
        rw [hTl, hTs] at hNC
        have hFN : firstL r = if numV (r.take t) ≤ 9223372036854775807 ∧ t ≤ 19 then (1, t, 0) else (0, 0, 12) := by
          rw [HF.out]
          unfold numberL
          rw [← hte]
        obtain ⟨X, hX⟩ : ∃ X, X = s.extract i P := ⟨_, rfl⟩
        rw [← hX] at hNC hTl
        have hiP : (i : Int) ≤ (P : Int) := by omega
        have hP0 : (0 : Int) ≤ (P : Int) := by omega
        have hPsI : (P : Int) ≤ (s.size : Int) := by omega
        have HX := Lib.hid hX
        have HTL := Lib.hid hTl
        have HP := Lib.hid hP
        clear hTs hall hX hte hTl hP
        by_cases hok : numV (r.take t) ≤ 9223372036854775807 ∧ t ≤ 19
        · rw [decide_eq_true hok] at hNC
          rw [if_pos hok] at hFN
          have NC := Lib.hid hNC
          have HFN := Lib.hid hFN
          clear hok hNC hFN
          go_wp2_with fail
          rw [← HX.out]
          refine NC.out.mono ?_
          rintro e w3 ⟨rfl, hw⟩
          obtain rfl : wA = w3 := hw.symm
          clear hw NC
          go_wp2
          (try simp only [Exit.inBlock, Exit.then])
          refine bodyPost_ret (v := .tuple #[.agg #[(.int .i64 1), .string (s.extract i P), (.int .i64 i)], (.int .i64 P), (.int .i64 0)]) ?_ rfl ?_
          · rw [results_cell_tmp3 rfl]
            go_simp
          refine ⟨⟨1, s.extract i P, i, P, 0, rfl, ?_, fun _ => ?_⟩, ?_⟩
          · rw [← HRr.out, HFN.out]
          · rw [← HRr.out, HFN.out]
            exact ⟨rfl, by rw [← HX.out]; exact HTL.out, rfl, HP.out⟩
          · exact keeps_one KA.out HPN.out _ _ _
        · rw [decide_eq_false hok] at hNC
          rw [if_neg hok] at hFN
          have NC := Lib.hid hNC
          have HFN := Lib.hid hFN
          clear hok hNC hFN
          go_wp2_with fail
          rw [← HX.out]
          refine NC.out.mono ?_
          rintro e w3 ⟨rfl, hw⟩
          obtain rfl : wA = w3 := hw.symm
          clear hw NC
          go_wp2
          (try simp only [Exit.inBlock, Exit.then])
          refine bodyPost_ret (v := .tuple #[.agg #[(.int .i64 0), .string ({ data := #[] } : ByteArray), (.int .i64 0)], (.int .i64 i), (.int .i64 12)]) ?_ rfl ?_
          · rw [results_cell_tmp3 rfl]
            go_simp
          refine ⟨⟨0, { data := #[] }, 0, i, 12, rfl, ?_, fun h => by cases h⟩, ?_⟩
          · rw [← HRr.out, HFN.out]
          · exact keeps_one KA.out HPN.out _ _ _
    · have hPd : decide ((P : Int) < (s.size : Int)) = false := decide_eq_false (by omega)
      have hte := st2 (List.getElem?_eq_none_iff.2 (by rw [HRL.out]; omega))
      clear st1 st2
      have hTl : (s.extract i P).data.toList = r.take t := by
        rw [ext_mid2, ← HL.out, ← HRr.out, show P - i = t by omega]
      have hTs : (s.extract i P).size = t := by
        rw [← len_size, hTl, List.length_take, HRL.out]
        omega
      have hall : ∀ c ∈ (s.extract i P).data.toList, dig c = true := by
        rw [hTl, hte]
        exact runL_all dig r
      have hNC := rnumber_any (s.extract i P) hall wA
      rw [hTl, hTs] at hNC
      have hFN : firstL r = if numV (r.take t) ≤ 9223372036854775807 ∧ t ≤ 19 then (1, t, 0) else (0, 0, 12) := by
        rw [HF.out]
        unfold numberL
        rw [← hte]
      obtain ⟨X, hX⟩ : ∃ X, X = s.extract i P := ⟨_, rfl⟩
      rw [← hX] at hNC hTl
      have hiP : (i : Int) ≤ (P : Int) := by omega
      have hP0 : (0 : Int) ≤ (P : Int) := by omega
      have hPsI : (P : Int) ≤ (s.size : Int) := by omega
      have HX := Lib.hid hX
      have HTL := Lib.hid hTl
      have HP := Lib.hid hP
      clear hTs hall hX hte hTl hP
      by_cases hok : numV (r.take t) ≤ 9223372036854775807 ∧ t ≤ 19
      · rw [decide_eq_true hok] at hNC
        rw [if_pos hok] at hFN
        have NC := Lib.hid hNC
        have HFN := Lib.hid hFN
        clear hok hNC hFN
        go_wp2_with fail
        rw [← HX.out]
        refine NC.out.mono ?_
        rintro e w3 ⟨rfl, hw⟩
        obtain rfl : wA = w3 := hw.symm
        clear hw NC
        go_wp2
        (try simp only [Exit.inBlock, Exit.then])
        refine bodyPost_ret (v := .tuple #[.agg #[(.int .i64 1), .string (s.extract i P), (.int .i64 i)], (.int .i64 P), (.int .i64 0)]) ?_ rfl ?_
        · rw [results_cell_tmp3 rfl]
          go_simp
        refine ⟨⟨1, s.extract i P, i, P, 0, rfl, ?_, fun _ => ?_⟩, ?_⟩
        · rw [← HRr.out, HFN.out]
        · rw [← HRr.out, HFN.out]
          exact ⟨rfl, by rw [← HX.out]; exact HTL.out, rfl, HP.out⟩
        · exact keeps_one KA.out HPN.out _ _ _
      · rw [decide_eq_false hok] at hNC
        rw [if_neg hok] at hFN
        have NC := Lib.hid hNC
        have HFN := Lib.hid hFN
        clear hok hNC hFN
        go_wp2_with fail
        rw [← HX.out]
        refine NC.out.mono ?_
        rintro e w3 ⟨rfl, hw⟩
        obtain rfl : wA = w3 := hw.symm
        clear hw NC
        go_wp2
        (try simp only [Exit.inBlock, Exit.then])
        refine bodyPost_ret (v := .tuple #[.agg #[(.int .i64 0), .string ({ data := #[] } : ByteArray), (.int .i64 0)], (.int .i64 i), (.int .i64 12)]) ?_ rfl ?_
        · rw [results_cell_tmp3 rfl]
          go_simp
        refine ⟨⟨0, { data := #[] }, 0, i, 12, rfl, ?_, fun h => by cases h⟩, ?_⟩
        · rw [← HRr.out, HFN.out]
        · exact keeps_one KA.out HPN.out _ _ _
end Go.Proofs.YtgelggdgbmldiaaDoor

namespace Go.Proofs.YtgelggdgbmldiaaDoor
open Go.RowKit Go.Shelf
set_option linter.unusedVariables false
set_option linter.unusedSimpArgs false
set_option maxRecDepth 100000 in
set_option maxHeartbeats 8000000 in
theorem one_name (s : ByteArray) (hs : s.size ≤ 1000) (i : Nat) (hi : i < s.size) (hd : dig s[i] = false) (hlt : ltr s[i] = true) (w : World) : Calls Tryd.prog 57 #[.string s, .int .i64 i] w (OneR s.data.toList i w) := by
  obtain ⟨l, hl⟩ : ∃ l : List UInt8, l = s.data.toList := ⟨_, rfl⟩
  have hlen : l.length = s.size := by rw [hl, len_size]
  rw [← hl]
  obtain ⟨r, hr⟩ : ∃ r, r = l.drop i := ⟨_, rfl⟩
  have hrc : r = s[i] :: l.drop (i + 1) := by rw [hr]; exact drop_at hl hi
  have hF : firstL r = nameL r := by rw [hrc, firstL_cons, if_neg (by rw [hd]; decide), if_pos hlt]
  have hrl : r.length = s.size - i := by rw [hr, List.length_drop, hlen]
  have hiI : (i : Int) < (s.size : Int) := by omega
  have hi0 : (0 : Int) ≤ (i : Int) := by omega
  have DC : Hid (∀ (w : World) (c : UInt8), Calls Tryd.prog 86 #[.int .u8 (c.toNat : Int)] w fun e w' => e = .returned (.bool (dig c)) ∧ w' = w) := Lib.hid rdig
  have LC : Hid (∀ (w : World) (c : UInt8), Calls Tryd.prog 88 #[.int .u8 (c.toNat : Int)] w fun e w' => e = .returned (.bool (ltr c)) ∧ w' = w) := Lib.hid rltr
  have D0 : Hid (Calls Tryd.prog 86 #[.int .u8 (s[i].toNat : Int)] (w.alloc (.cells #[.int .i64 0, .string { data := #[] }, .int .i64 0] 54)) fun e w' => e = .returned (.bool false) ∧ w' = w.alloc (.cells #[.int .i64 0, .string { data := #[] }, .int .i64 0] 54)) := by
    have := DC.out (w.alloc (.cells #[.int .i64 0, .string { data := #[] }, .int .i64 0] 54)) s[i]
    rw [hd] at this
    exact this
  have HL := Lib.hid hl
  have HLN := Lib.hid hlen
  have HRr := Lib.hid hr
  have HF := Lib.hid hF
  have HRL := Lib.hid hrl
  have HRC := Lib.hid hrc
  clear hl hlen hr hrc hF hrl hd
  go_enter Tryd.func57, Tryd.ntmps57
  go_wp2_with fail
  refine D0.out.mono ?_
  rintro e w2 ⟨rfl, hw⟩
  generalize hwA : w.alloc _ = wA at hw ⊢
  obtain rfl : wA = w2 := hw.symm
  have kA : Keeps (fun _ => False) w wA := by rw [← hwA]; exact (Keeps.refl _ _).alloc _
  have c0 : wA.cell? ⟨w.heap.size, 0, none⟩ = some (.int .i64 0) := by rw [← hwA]; simp
  have c1 : wA.cell? ⟨w.heap.size, 1, none⟩ = some (.string { data := #[] }) := by rw [← hwA]; simp
  have c2 : wA.cell? ⟨w.heap.size, 2, none⟩ = some (.int .i64 0) := by rw [← hwA]; simp
  have f0 : wA.frozen? ⟨w.heap.size, 0, none⟩ = false := by rw [← hwA]; simp
  have f1 : wA.frozen? ⟨w.heap.size, 1, none⟩ = false := by rw [← hwA]; simp
  have f2 : wA.frozen? ⟨w.heap.size, 2, none⟩ = false := by rw [← hwA]; simp
  have KA := Lib.hid kA
  obtain ⟨pn, hpn⟩ : ∃ pn, pn = w.heap.size := ⟨_, rfl⟩
  rw [← hpn] at c0 c1 c2 f0 f1 f2 ⊢
  have HPN := Lib.hid hpn
  have hbl := cell_ltk c0
  clear hw hwA kA D0 hpn
  have L0 : Hid (Calls Tryd.prog 88 #[.int .u8 (s[i].toNat : Int)] wA fun e w' => e = .returned (.bool true) ∧ w' = wA) := by
    have := LC.out wA s[i]
    rw [hlt] at this
    exact this
  clear hlt
  go_wp2_with fail
  refine L0.out.mono ?_
  rintro e w3 ⟨rfl, hw⟩
  obtain rfl : wA = w3 := hw.symm
  clear hw L0
  go_wp2_with fail
  go_loopw [8] (fun s8 wr => ∃ (t P : Nat), P = i + t ∧ P ≤ s.size ∧ s8 = .int .i64 P ∧ t ≤ runL nmc r ∧ wr = wA) (fun s8 _ => s.size + 1 - (intOf s8).toNat)
  case atStart => exact ⟨0, i, rfl, by omega, rfl, Nat.zero_le _, rfl⟩
  case round =>
    obtain ⟨t, P, hP, hPs, rfl, ht, hw⟩ := hrel
    obtain rfl : wA = wr := hw.symm
    clear hw
    obtain ⟨st1, st2⟩ := run_step ht
    by_cases hPN : P < s.size
    · have hPI : (P : Int) < (s.size : Int) := by omega
      have hPd : decide ((P : Int) < (s.size : Int)) = true := decide_eq_true hPI
      have hP0 : (0 : Int) ≤ (P : Int) := by omega
      have hc : r[t]? = some s[P] := by
        have h1 := at_drop s i t (by omega)
        rw [HRr.out, HL.out, h1]
        congr 1
        congr 1
        exact hP.symm
      have h2 := st1 _ hc
      have hLC := LC.out wA s[P]
      have hDC := DC.out wA s[P]
      clear hc st1 st2
      cases hb : ltr s[P] with
      | true =>
        rw [hb] at hLC
        have HLC := Lib.hid hLC
        clear hLC hDC
        have hte := h2.1 (by unfold nmc; rw [hb]; rfl)
        have HP := Lib.hid hP
        clear h2 hb hP
        go_wp2_with fail
        refine HLC.out.mono ?_
        rintro e w3 ⟨rfl, hw⟩
        obtain rfl : wA = w3 := hw.symm
        clear hw HLC
        go_wp2
        go_roundw
        case rel => exact ⟨t + 1, P + 1, by have := HP.out; omega, by omega, by go_num, hte, by first | rfl | trivial⟩
        case measure => simp [intOf]; omega
      | false =>
        rw [hb] at hLC
        have HLC := Lib.hid hLC
        clear hLC
        cases hb2 : dig s[P] with
        | true =>
          rw [hb2] at hDC
          have HDC := Lib.hid hDC
          clear hDC
          have hb : nmc s[P] = true := by unfold nmc; rw [hb, hb2]; rfl
          clear hb2
          have hte := h2.1 hb
          have HP := Lib.hid hP
          clear h2 hb hP
          go_wp2_with fail
          refine HLC.out.mono ?_
          rintro e w3 ⟨rfl, hw⟩
          obtain rfl : wA = w3 := hw.symm
          clear hw HLC
          go_wp2_with fail
          refine HDC.out.mono ?_
          rintro e w3 ⟨rfl, hw⟩
          obtain rfl : wA = w3 := hw.symm
          clear hw HDC
          go_wp2
          go_roundw
          case rel => exact ⟨t + 1, P + 1, by have := HP.out; omega, by omega, by go_num, hte, by first | rfl | trivial⟩
          case measure => simp [intOf]; omega
        | false =>
          rw [hb2] at hDC
          have HDC := Lib.hid hDC
          clear hDC
          by_cases h95 : s[P].toNat = 95
          · have q95 : ((s[P].toNat : Int) == 95) = true := by simp; omega
            have hb : nmc s[P] = true := by unfold nmc; rw [hb, hb2, decide_eq_true h95]; rfl
            have H95 := Lib.hid h95
            clear hb2 h95
            have hte := h2.1 hb
            have HP := Lib.hid hP
            clear h2 hb hP
            go_wp2_with fail
            refine HLC.out.mono ?_
            rintro e w3 ⟨rfl, hw⟩
            obtain rfl : wA = w3 := hw.symm
            clear hw HLC
            go_wp2_with fail
            refine HDC.out.mono ?_
            rintro e w3 ⟨rfl, hw⟩
            obtain rfl : wA = w3 := hw.symm
            clear hw HDC
            go_wp2
            go_roundw
            case rel => exact ⟨t + 1, P + 1, by have := HP.out; omega, by omega, by go_num, hte, by first | rfl | trivial⟩
            case measure => simp [intOf]; omega
          · have q95 : ((s[P].toNat : Int) == 95) = false := by simp; omega
            have hb3 : nmc s[P] = false := by unfold nmc; rw [hb, hb2, decide_eq_false h95]; rfl
            have hte := h2.2 hb3
            have HPx := Lib.hid hP
            have HTx := Lib.hid hte
            clear h2 hb hb2 hb3 hP hte h95
            go_wp2_with fail
            refine HLC.out.mono ?_
            rintro e w3 ⟨rfl, hw⟩
            obtain rfl : wA = w3 := hw.symm
            clear hw HLC
            go_wp2_with fail
            refine HDC.out.mono ?_
            rintro e w3 ⟨rfl, hw⟩
            obtain rfl : wA = w3 := hw.symm
            clear hw HDC
            have hP := HPx.out
            have hte := HTx.out
            have hTl : (s.extract i P).data.toList = r.take t := by
              rw [ext_mid2, ← HL.out, ← HRr.out, show P - i = t by omega]
            have hTs : (s.extract i P).size = t := by
              rw [← len_size, hTl, List.length_take, HRL.out]
              omega
            have hNC := rword_any (s.extract i P) wA
            rw [hTl] at hNC
            have hFN : firstL r = if isWord (r.take t) then (4, t, 0) else if 8 < t then (0, 0, 13) else (3, t, 0) := by
              rw [HF.out]
              unfold nameL
              rw [← hte]
            obtain ⟨X, hX⟩ : ∃ X, X = s.extract i P := ⟨_, rfl⟩
            rw [← hX] at hNC hTl hTs
            have hiP : (i : Int) ≤ (P : Int) := by omega
            have hP0 : (0 : Int) ≤ (P : Int) := by omega
            have hPsI : (P : Int) ≤ (s.size : Int) := by omega
            have HX := Lib.hid hX
            have HTL := Lib.hid hTl
            have HP := Lib.hid hP
            have HTS := Lib.hid hTs
            clear hX hte hTl hP hTs
            cases hwd : isWord (r.take t) with
            | true =>
              rw [hwd] at hNC
              rw [if_pos hwd] at hFN
              have NC := Lib.hid hNC
              have HFN := Lib.hid hFN
              clear hwd hNC hFN
              go_wp2_with fail
              rw [← HX.out]
              refine NC.out.mono ?_
              rintro e w3 ⟨rfl, k3⟩
              have g0 := (k3.cell hbl (fun h => h)).trans c0
              have g1 := (k3.cell hbl (fun h => h)).trans c1
              have g2 := (k3.cell hbl (fun h => h)).trans c2
              have e0 := (k3.frozen hbl (fun h => h)).trans f0
              have e1 := (k3.frozen hbl (fun h => h)).trans f1
              have e2 := (k3.frozen hbl (fun h => h)).trans f2
              have K3 := Lib.hid (KA.out.trans k3 (fun _ _ h => h))
              clear c0 c1 c2 f0 f1 f2 k3
              clear NC
              go_wp2
              (try simp only [Exit.inBlock, Exit.then])
              refine bodyPost_ret (v := .tuple #[.agg #[.int .i64 4, .string X, .int .i64 i], .int .i64 P, .int .i64 0]) ?_ rfl ?_
              · rw [results_cell_tmp3 rfl]
                go_simp
              refine ⟨⟨4, X, i, P, 0, rfl, ?_, fun _ => ?_⟩, ?_⟩
              · rw [← HRr.out, HFN.out]
              · rw [← HRr.out, HFN.out]
                exact ⟨rfl, HTL.out, rfl, HP.out⟩
              · exact keeps_one K3.out HPN.out _ _ _
            | false =>
              rw [hwd] at hNC
              rw [if_neg (by rw [hwd]; decide)] at hFN
              by_cases h8 : 8 < t
              · have h8I : (8 : Int) < (X.size : Int) := by have := HTS.out; omega
                have h8d : decide ((8 : Int) < (X.size : Int)) = true := decide_eq_true h8I
                rw [if_pos h8] at hFN
                have NC := Lib.hid hNC
                have HFN := Lib.hid hFN
                clear hwd hNC hFN h8
                go_wp2_with fail
                rw [← HX.out]
                refine NC.out.mono ?_
                rintro e w3 ⟨rfl, k3⟩
                have g0 := (k3.cell hbl (fun h => h)).trans c0
                have g1 := (k3.cell hbl (fun h => h)).trans c1
                have g2 := (k3.cell hbl (fun h => h)).trans c2
                have e0 := (k3.frozen hbl (fun h => h)).trans f0
                have e1 := (k3.frozen hbl (fun h => h)).trans f1
                have e2 := (k3.frozen hbl (fun h => h)).trans f2
                have K3 := Lib.hid (KA.out.trans k3 (fun _ _ h => h))
                clear c0 c1 c2 f0 f1 f2 k3
                clear NC
                go_wp2
                (try simp only [Exit.inBlock, Exit.then])
                refine bodyPost_ret (v := .tuple #[.agg #[.int .i64 0, .string { data := #[] }, .int .i64 0], .int .i64 i, .int .i64 13]) ?_ rfl ?_
                · rw [results_cell_tmp3 rfl]
                  go_simp
                refine ⟨⟨0, { data := #[] }, 0, i, 13, rfl, ?_, fun h => by cases h⟩, ?_⟩
                · rw [← HRr.out, HFN.out]
                · exact keeps_one K3.out HPN.out _ _ _
              · have h8I : ¬ (8 : Int) < (X.size : Int) := by have := HTS.out; omega
                have h8d : decide ((8 : Int) < (X.size : Int)) = false := decide_eq_false h8I
                rw [if_neg h8] at hFN
                have NC := Lib.hid hNC
                have HFN := Lib.hid hFN
                clear hwd hNC hFN h8
                go_wp2_with fail
                rw [← HX.out]
                refine NC.out.mono ?_
                rintro e w3 ⟨rfl, k3⟩
                have g0 := (k3.cell hbl (fun h => h)).trans c0
                have g1 := (k3.cell hbl (fun h => h)).trans c1
                have g2 := (k3.cell hbl (fun h => h)).trans c2
                have e0 := (k3.frozen hbl (fun h => h)).trans f0
                have e1 := (k3.frozen hbl (fun h => h)).trans f1
                have e2 := (k3.frozen hbl (fun h => h)).trans f2
                have K3 := Lib.hid (KA.out.trans k3 (fun _ _ h => h))
                clear c0 c1 c2 f0 f1 f2 k3
                clear NC
                go_wp2
                (try simp only [Exit.inBlock, Exit.then])
                refine bodyPost_ret (v := .tuple #[.agg #[.int .i64 3, .string X, .int .i64 i], .int .i64 P, .int .i64 0]) ?_ rfl ?_
                · rw [results_cell_tmp3 rfl]
                  go_simp
                refine ⟨⟨3, X, i, P, 0, rfl, ?_, fun _ => ?_⟩, ?_⟩
                · rw [← HRr.out, HFN.out]
                · rw [← HRr.out, HFN.out]
                  exact ⟨rfl, HTL.out, rfl, HP.out⟩
                · exact keeps_one K3.out HPN.out _ _ _
    · have hPd : decide ((P : Int) < (s.size : Int)) = false := decide_eq_false (by omega)
      have hte := st2 (List.getElem?_eq_none_iff.2 (by rw [HRL.out]; omega))
      clear st1 st2
      have hTl : (s.extract i P).data.toList = r.take t := by
        rw [ext_mid2, ← HL.out, ← HRr.out, show P - i = t by omega]
      have hTs : (s.extract i P).size = t := by
        rw [← len_size, hTl, List.length_take, HRL.out]
        omega
      have hNC := rword_any (s.extract i P) wA
      rw [hTl] at hNC
      have hFN : firstL r = if isWord (r.take t) then (4, t, 0) else if 8 < t then (0, 0, 13) else (3, t, 0) := by
        rw [HF.out]
        unfold nameL
        rw [← hte]
      obtain ⟨X, hX⟩ : ∃ X, X = s.extract i P := ⟨_, rfl⟩
      rw [← hX] at hNC hTl hTs
      have hiP : (i : Int) ≤ (P : Int) := by omega
      have hP0 : (0 : Int) ≤ (P : Int) := by omega
      have hPsI : (P : Int) ≤ (s.size : Int) := by omega
      have HX := Lib.hid hX
      have HTL := Lib.hid hTl
      have HP := Lib.hid hP
      have HTS := Lib.hid hTs
      clear hX hte hTl hP hTs
      cases hwd : isWord (r.take t) with
      | true =>
        rw [hwd] at hNC
        rw [if_pos hwd] at hFN
        have NC := Lib.hid hNC
        have HFN := Lib.hid hFN
        clear hwd hNC hFN
        go_wp2_with fail
        rw [← HX.out]
        refine NC.out.mono ?_
        rintro e w3 ⟨rfl, k3⟩
        have g0 := (k3.cell hbl (fun h => h)).trans c0
        have g1 := (k3.cell hbl (fun h => h)).trans c1
        have g2 := (k3.cell hbl (fun h => h)).trans c2
        have e0 := (k3.frozen hbl (fun h => h)).trans f0
        have e1 := (k3.frozen hbl (fun h => h)).trans f1
        have e2 := (k3.frozen hbl (fun h => h)).trans f2
        have K3 := Lib.hid (KA.out.trans k3 (fun _ _ h => h))
        clear c0 c1 c2 f0 f1 f2 k3
        clear NC
        go_wp2
        (try simp only [Exit.inBlock, Exit.then])
        refine bodyPost_ret (v := .tuple #[.agg #[.int .i64 4, .string X, .int .i64 i], .int .i64 P, .int .i64 0]) ?_ rfl ?_
        · rw [results_cell_tmp3 rfl]
          go_simp
        refine ⟨⟨4, X, i, P, 0, rfl, ?_, fun _ => ?_⟩, ?_⟩
        · rw [← HRr.out, HFN.out]
        · rw [← HRr.out, HFN.out]
          exact ⟨rfl, HTL.out, rfl, HP.out⟩
        · exact keeps_one K3.out HPN.out _ _ _
      | false =>
        rw [hwd] at hNC
        rw [if_neg (by rw [hwd]; decide)] at hFN
        by_cases h8 : 8 < t
        · have h8I : (8 : Int) < (X.size : Int) := by have := HTS.out; omega
          have h8d : decide ((8 : Int) < (X.size : Int)) = true := decide_eq_true h8I
          rw [if_pos h8] at hFN
          have NC := Lib.hid hNC
          have HFN := Lib.hid hFN
          clear hwd hNC hFN h8
          go_wp2_with fail
          rw [← HX.out]
          refine NC.out.mono ?_
          rintro e w3 ⟨rfl, k3⟩
          have g0 := (k3.cell hbl (fun h => h)).trans c0
          have g1 := (k3.cell hbl (fun h => h)).trans c1
          have g2 := (k3.cell hbl (fun h => h)).trans c2
          have e0 := (k3.frozen hbl (fun h => h)).trans f0
          have e1 := (k3.frozen hbl (fun h => h)).trans f1
          have e2 := (k3.frozen hbl (fun h => h)).trans f2
          have K3 := Lib.hid (KA.out.trans k3 (fun _ _ h => h))
          clear c0 c1 c2 f0 f1 f2 k3
          clear NC
          go_wp2
          (try simp only [Exit.inBlock, Exit.then])
          refine bodyPost_ret (v := .tuple #[.agg #[.int .i64 0, .string { data := #[] }, .int .i64 0], .int .i64 i, .int .i64 13]) ?_ rfl ?_
          · rw [results_cell_tmp3 rfl]
            go_simp
          refine ⟨⟨0, { data := #[] }, 0, i, 13, rfl, ?_, fun h => by cases h⟩, ?_⟩
          · rw [← HRr.out, HFN.out]
          · exact keeps_one K3.out HPN.out _ _ _
        · have h8I : ¬ (8 : Int) < (X.size : Int) := by have := HTS.out; omega
          have h8d : decide ((8 : Int) < (X.size : Int)) = false := decide_eq_false h8I
          rw [if_neg h8] at hFN
          have NC := Lib.hid hNC
          have HFN := Lib.hid hFN
          clear hwd hNC hFN h8
          go_wp2_with fail
          rw [← HX.out]
          refine NC.out.mono ?_
          rintro e w3 ⟨rfl, k3⟩
          have g0 := (k3.cell hbl (fun h => h)).trans c0
          have g1 := (k3.cell hbl (fun h => h)).trans c1
          have g2 := (k3.cell hbl (fun h => h)).trans c2
          have e0 := (k3.frozen hbl (fun h => h)).trans f0
          have e1 := (k3.frozen hbl (fun h => h)).trans f1
          have e2 := (k3.frozen hbl (fun h => h)).trans f2
          have K3 := Lib.hid (KA.out.trans k3 (fun _ _ h => h))
          clear c0 c1 c2 f0 f1 f2 k3
          clear NC
          go_wp2
          (try simp only [Exit.inBlock, Exit.then])
          refine bodyPost_ret (v := .tuple #[.agg #[.int .i64 3, .string X, .int .i64 i], .int .i64 P, .int .i64 0]) ?_ rfl ?_
          · rw [results_cell_tmp3 rfl]
            go_simp
          refine ⟨⟨3, X, i, P, 0, rfl, ?_, fun _ => ?_⟩, ?_⟩
          · rw [← HRr.out, HFN.out]
          · rw [← HRr.out, HFN.out]
            exact ⟨rfl, HTL.out, rfl, HP.out⟩
          · exact keeps_one K3.out HPN.out _ _ _
end Go.Proofs.YtgelggdgbmldiaaDoor
