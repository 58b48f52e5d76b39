/-
  Layer 16: rows of edits in memory; the contracts of slices.IndexFunc, slices.Clone and at. Written by an AI agent.
-/
import Derived.Test.YtpighdioomjnmabEdA
import Derived.Test.YtpighdioomjnmabKpZ
import Derived.Lib.SliceRun
namespace Go.Proofs.Ytpighdioomjnmab
open Go.RowKit Go.Shelf
set_option linter.unusedVariables false
set_option linter.unusedSimpArgs false

def Ed.agg (e : Ed) : Value := .agg #[.int .i64 e.t, .string e.nm, .int .i64 e.ty, .int .i64 e.n, .string e.s]

/-- What lies at a slice's cells: edits. -/
def RdE (w : World) (A : Option Addr) (L : List Ed) : Prop := 0 < L.length → ∃ b off, A = some ⟨b, off, none⟩ ∧ ∀ k, k < L.length →
  w.cell? ⟨b, off + k * 5, none⟩ = some (.int .i64 (L.getD k default).t) ∧ w.cell? ⟨b, off + k * 5 + 1, none⟩ = some (.string (L.getD k default).nm) ∧ w.cell? ⟨b, off + k * 5 + 2, none⟩ = some (.int .i64 (L.getD k default).ty) ∧
  w.cell? ⟨b, off + k * 5 + 3, none⟩ = some (.int .i64 (L.getD k default).n) ∧ w.cell? ⟨b, off + k * 5 + 4, none⟩ = some (.string (L.getD k default).s)

theorem RdE.keep {w w' : World} {A : Option Addr} {L : List Ed} (h : RdE w A L) (hk : Keeps (fun _ => False) w w') : RdE w' A L := fun h0 => by
  obtain ⟨b, off, e, hc⟩ := h h0
  have hb : b < w.heap.size := cell_ltk (hc 0 h0).1
  refine ⟨b, off, e, fun k hk2 => ?_⟩
  obtain ⟨c0, c1, c2, c3, c4⟩ := hc k hk2
  exact ⟨(hk.cell hb (fun h => h)).trans c0, (hk.cell hb (fun h => h)).trans c1, (hk.cell hb (fun h => h)).trans c2, (hk.cell hb (fun h => h)).trans c3, (hk.cell hb (fun h => h)).trans c4⟩

theorem RdE.below {w w' : World} {B : Nat} {A : Option Addr} {L : List Ed} (h : RdE w A L) (hB : w.heap.size ≤ B) (hk : Below B w w') : RdE w' A L := fun h0 => by
  obtain ⟨b, off, e, hc⟩ := h h0
  have hb : b < w.heap.size := cell_ltk (hc 0 h0).1
  refine ⟨b, off, e, fun k hk2 => ?_⟩
  obtain ⟨c0, c1, c2, c3, c4⟩ := hc k hk2
  have q : ∀ o, w'.cell? ⟨b, o, none⟩ = w.cell? ⟨b, o, none⟩ := fun o => hk.cell (p := ⟨b, o, none⟩) (by show b < B; omega)
  exact ⟨(q _).trans c0, (q _).trans c1, (q _).trans c2, (q _).trans c3, (q _).trans c4⟩

theorem own_rdE {w : World} {A : Option Addr} {c n : Nat} {L : List Ed} (h : w.ownsRow 0 49 5 (.slice A n c) n (flatE L)) (hn : n = L.length) : RdE w A L := fun h0 => by
  rcases h.2 with ⟨_, h1⟩ | ⟨g, cap, cur, e1, _⟩
  · omega
  · simp only [Value.slice.injEq] at e1
    obtain ⟨rfl, _, rfl⟩ := e1
    refine ⟨g, 0, rfl, fun k hk => ?_⟩
    obtain ⟨f0, f1, f2, f3, f4⟩ := flatE_at L k hk
    rw [Nat.zero_add]
    exact ⟨(h.cellAt _ (by omega)).trans f0, (h.cellAt _ (by omega)).trans f1, (h.cellAt _ (by omega)).trans f2, (h.cellAt _ (by omega)).trans f3, (h.cellAt _ (by omega)).trans f4⟩

theorem RdE.rdo {w : World} {A : Option Addr} {L : List Ed} (h : RdE w A L) : RdO w A (flatE L) := fun h0 => by
  rw [flatE_length] at h0
  obtain ⟨b, off, e, hc⟩ := h (by omega)
  refine ⟨b, off, e, fun i hi => ?_⟩
  rw [flatE_length] at hi
  obtain ⟨c0, c1, c2, c3, c4⟩ := hc (i / 5) (by omega)
  obtain ⟨f0, f1, f2, f3, f4⟩ := flatE_at L (i / 5) (by omega)
  have hm : i % 5 = 0 ∨ i % 5 = 1 ∨ i % 5 = 2 ∨ i % 5 = 3 ∨ i % 5 = 4 := by omega
  rcases hm with h | h | h | h | h
  · have e : i / 5 * 5 = i := by omega
    rw [e] at c0 f0
    rw [c0, f0]
  · have e : i / 5 * 5 + 1 = i := by omega
    rw [Nat.add_assoc, e] at c1
    rw [e] at f1
    rw [c1, f1]
  · have e : i / 5 * 5 + 2 = i := by omega
    rw [Nat.add_assoc, e] at c2
    rw [e] at f2
    rw [c2, f2]
  · have e : i / 5 * 5 + 3 = i := by omega
    rw [Nat.add_assoc, e] at c3
    rw [e] at f3
    rw [c3, f3]
  · have e : i / 5 * 5 + 4 = i := by omega
    rw [Nat.add_assoc, e] at c4
    rw [e] at f4
    rw [c4, f4]

/-- A new row of edits. -/
def NewE (L : List Ed) (w : World) (e : Ending) (w' : World) : Prop :=
  ∃ A c, e = .returned (.slice A L.length c) ∧ w'.ownsRow 0 49 5 (.slice A L.length c) L.length (flatE L) ∧ (∀ g, (Value.slice A L.length c).ownBlock = some g → w.heap.size ≤ g) ∧ Keeps (fun _ => False) w w'

theorem news5 {w : World} {s : Nat} (x : Ed) (t : TypeId) (hs : w.heap.size = s) : ∀ j u, x.cells[j]? = some u → (w.alloc (.cells x.cells.toArray t)).cell? ((⟨s, 0, none⟩ : Addr).add j) = some u := by
  intro j u h
  subst hs
  have e : (⟨w.heap.size, 0, none⟩ : Addr).add j = ⟨w.heap.size, j, none⟩ := by unfold Addr.add; split <;> simp_all
  rw [e]
  have hj : j < 5 := (List.getElem?_eq_some_iff.1 h).1
  match j, hj with
  | 0, _ => simpa [Ed.cells] using h
  | 1, _ => simpa [Ed.cells] using h
  | 2, _ => simpa [Ed.cells] using h
  | 3, _ => simpa [Ed.cells] using h
  | 4, _ => simpa [Ed.cells] using h

set_option maxRecDepth 100000 in
set_option maxHeartbeats 2000000 in
/-- Whether an edit is behind a time. -/
theorem asks47 (w : World) (p : Nat) (t0 t : Int) (nm s : ByteArray) (ty n : Int) (hp : w.cell? ⟨p, 0, none⟩ = some (.int .i64 t0)) :
    Calls Try.prog 47 #[.agg #[.int .i64 t, .string nm, .int .i64 ty, .int .i64 n, .string s], .pointer (some ⟨p, 0, none⟩)] w fun e w' => e = .returned (.bool (decide (t0 < t))) ∧ Keeps (fun _ => False) w w' := by
  have hlt := cell_ltk hp
  have hne : p ≠ w.heap.size := by omega
  have k0 : Keeps (fun _ => False) w (w.alloc (.cells #[.int .i64 t, .string nm, .int .i64 ty, .int .i64 n, .string s] 49)) := (Keeps.refl _ _).alloc _
  have hp1 := (k0.cell hlt (fun h => h)).trans hp
  have K0 := Lib.hid k0
  clear k0
  go_enter Try.func47, Try.ntmps47
  go_wp2
  go_ret
  exact ⟨rfl, K0.out⟩

/-- Where the first edit behind a time stands, or -1. -/
def Index (L : List Ed) (t : Int) (w : World) (e : Ending) (w' : World) : Prop :=
  e = .returned (.int .i64 (if plE L t < L.length then ((plE L t : Nat) : Int) else -1)) ∧ Keeps (fun _ => False) w w'

theorem plE_ge {L : List Ed} {t : Int} {k : Nat} (h : ∀ i, i < k → i < L.length → (L.getD i default).t ≤ t) (hk : k ≤ L.length) : k ≤ plE L t := by
  rcases Nat.lt_or_ge (plE L t) k with h1 | h1
  · have h2 := plE_at (L := L) (t := t) (by omega)
    have h3 := h _ h1 (by omega)
    omega
  · exact h1

set_option maxRecDepth 100000 in
set_option maxHeartbeats 4000000 in
theorem index_any (w : World) (A : Option Addr) (c : Nat) (L : List Ed) (hA : RdE w A L) (hn : L.length ≤ 1000) (p : Nat) (t : Int) (hp : w.cell? ⟨p, 0, none⟩ = some (.int .i64 t)) :
    Calls Try.prog 46 #[.slice A L.length c, .func (.func 47) #[] #[.pointer (some ⟨p, 0, none⟩)]] w (Index L t w) := by
  obtain ⟨N, hN⟩ : ∃ N : Nat, N = L.length := ⟨_, rfl⟩
  have hlt := cell_ltk hp
  have eg : ∀ args w, (callFunc 47 args).run Try.prog w = .ok (.enter 47 args) w := enters_of Try.func47 (by kernel_rfl) rfl
  have HA := Lib.hid hA
  have HP := Lib.hid hp
  have HN := Lib.hid hN
  rw [← hN] at hn ⊢
  clear hA hp hN
  go_enter Try.func46, Try.ntmps46
  go_wp2_with fail
  go_loopw [8] (fun s8 wr => ∃ k : Nat, k ≤ N ∧ s8 = .int .i64 k ∧ (∀ i, i < k → i < L.length → (L.getD i default).t ≤ t) ∧ Keeps (fun _ => False) w wr) (fun s8 _ => N - (intOf s8).toNat)
  case atStart => exact ⟨0, Nat.zero_le _, rfl, fun i h => absurd h (Nat.not_lt_zero _), Keeps.refl _ _⟩
  case round =>
    obtain ⟨k, hk, rfl, hall, kr⟩ := hrel
    by_cases hkN : k < N
    · have hkN' : (k : Int) < (N : Int) := by omega
      have hk0 : (0 : Int) ≤ (k : Int) := by omega
      have hkL : k < L.length := by rw [← HN.out]; exact hkN
      obtain ⟨b, off, rfl, hc⟩ := (HA.out.keep kr) (by rw [← HN.out]; omega)
      obtain ⟨c0, c1, c2, c3, c4⟩ := hc k hkL
      have hpr := (kr.cell hlt (fun h => h)).trans HP.out
      obtain ⟨y, hy⟩ : ∃ y : Ed, y = L.getD k default := ⟨_, rfl⟩
      rw [← hy] at c0 c1 c2 c3 c4
      obtain ⟨yt, ynm, yty, yn, ys⟩ := y
      have hyt : (L.getD k default).t = yt := by rw [← hy]
      have AC := Lib.hid (asks47 wr p t yt ynm ys yty yn hpr)
      have HY := Lib.hid hyt
      have HAll := Lib.hid hall
      have KR := Lib.hid kr
      clear hc hy hyt hall kr hpr
      by_cases hty : t < yt
      · have hd : decide (t < yt) = true := decide_eq_true hty
        have hpl : plE L t = k := by
          have h1 := plE_ge HAll.out (by omega)
          rcases Nat.lt_or_ge k (plE L t) with h2 | h2
          · have h3 := plE_low h2
            rw [HY.out] at h3
            omega
          · omega
        have HPl := Lib.hid hpl
        clear hpl
        go_wp2_with fail
        refine AC.out.mono ?_
        rintro e w1 ⟨rfl, k1⟩
        have K1 := Lib.hid k1
        clear k1
        go_wp2
        go_ret
        exact ⟨by rw [HPl.out, if_pos hkL]; rfl, KR.out.trans K1.out (fun _ _ h => h)⟩
      · have hd : decide (t < yt) = false := decide_eq_false hty
        have hall' : ∀ i, i < k + 1 → i < L.length → (L.getD i default).t ≤ t := fun i h1 h2 => by
          rcases Nat.lt_or_ge i k with h | h
          · exact HAll.out i h h2
          · obtain rfl : i = k := by omega
            rw [HY.out]
            omega
        have HAll' := Lib.hid hall'
        clear hall'
        go_wp2_with fail
        refine AC.out.mono ?_
        rintro e w1 ⟨rfl, k1⟩
        have K1 := Lib.hid k1
        clear k1
        go_wp2
        go_roundw
        case rel => exact ⟨k + 1, by omega, by go_num, HAll'.out, KR.out.trans K1.out (fun _ _ h => h)⟩
        case measure => simp [intOf]; omega
    · obtain rfl : k = N := by omega
      have hd : decide (k < k) = false := by simp
      have hpl : ¬ plE L t < L.length := by
        have h1 := plE_ge hall (by rw [HN.out]; exact Nat.le_refl _)
        rw [HN.out] at h1
        omega
      have HPl := Lib.hid hpl
      have KR := Lib.hid kr
      clear hpl hall kr
      go_wp2
      go_ret
      exact ⟨by rw [if_neg HPl.out]; rfl, KR.out⟩

set_option maxRecDepth 100000 in
set_option maxHeartbeats 2000000 in
theorem clone_any (w : World) (A : Option Addr) (c : Nat) (L : List Ed) (hA : RdE w A L) (hn : L.length ≤ 1000) (h0 : A = none → L.length = 0) :
    Calls Try.prog 45 #[.slice A L.length c] w (NewE L w) := by
  obtain ⟨i0, hi, hz0, hz1, hz2⟩ := info_parts info49
  rcases A with _ | ad
  · have hl := h0 rfl
    have hL : L = [] := List.length_eq_zero_iff.1 hl
    subst hL
    have hfin : NewE [] w (.returned (.slice none 0 0)) w := ⟨none, 0, rfl, World.ownsRow_nil _ _ _ _, by simp [Value.ownBlock], Keeps.refl _ _⟩
    have HF := Lib.hid hfin
    clear hfin hA h0
    show Calls Try.prog 45 #[.slice none 0 c] w _
    have hq : ∀ w : World, (binOp .eql 43 (.slice none 0 c) (.slice none 0 0)).run Try.prog w = .ok (.bool true) w := fun w => Lib.run_eql_slice_nil w 43 49 none 0 c 0 0 Try.underlying43
    go_enter Try.func45, Try.ntmps45
    go_wp2
    go_ret
    exact HF.out
  · obtain ⟨N, hN⟩ : ∃ N : Nat, N = L.length := ⟨_, rfl⟩
    have OW := Lib.hid (World.ownsRow_lit (base := 0) (e := 49) (size := 5) w #[] 0 (Nat.zero_le _) (by unfold maxLen; omega) rfl)
    have RT := Lib.hid ((hA.keep ((Keeps.refl _ w).alloc (.cells #[] 49))).rdo)
    have LT : Hid ((flatE L).length = N * 5) := by show _ = _; rw [flatE_length, hN]
    have hfin : ∀ (w2 : World) (v2 : Value), w2.ownsRow 0 49 5 v2 (0 + N) ([] ++ flatE L) → (w.alloc (.cells #[] 49)).grownBy w2 (Value.slice (some ⟨w.heap.size, 0, none⟩) 0 0).ownBlock → (v2.ownBlock = (Value.slice (some ⟨w.heap.size, 0, none⟩) 0 0).ownBlock ∨ v2.ownBlock = some (w.alloc (.cells #[] 49)).heap.size) → NewE L w (.returned v2) w2 := fun w2 v2 ho hg hb => by
      rw [Nat.zero_add, List.nil_append, hN] at ho
      obtain ⟨A2, c2, rfl⟩ := own_formk ho
      refine ⟨A2, c2, rfl, ho, fun g hg2 => ?_, ((Keeps.refl _ w).alloc _).grown hg fun k e hlt => by have : w.heap.size = k := Option.some.inj e; omega⟩
      rcases hb with e | e
      · rw [e] at hg2
        exact Nat.le_of_eq (Option.some.inj hg2)
      · rw [e] at hg2
        have := Option.some.inj hg2
        simp at this
        omega
    have HFin := Lib.hid hfin
    have OT := Lib.hid (flatE_one L)
    rw [← hN] at hn ⊢
    clear hfin hA h0 hN
    have hq : ∀ w : World, (binOp .eql 43 (.slice (some ad) N c) (.slice none 0 0)).run Try.prog w = .ok (.bool false) w := fun w => Lib.run_eql_slice_nil w 43 49 (some ad) N c 0 0 Try.underlying43
    go_enter Try.func45, Try.ntmps45
    go_wp2_with (at_builtin; refine wpList_append_optk rfl (.tmp 5) (.tmp 6) 43 rfl 0 49 i0 _ 5 56 Try.underlying43 hi hz0 hz1 hz2 (by rfl) (by omega) _ 0 [] (by rfl) OW.out (some ad) N c (flatE L) (by rfl) LT.out RT.out OT.out (fun h => by cases h) (by omega) (by omega) (Nat.zero_le _) ?_
                 intro v2 w2 ho2 hg2 hb2
                 have HF := Lib.hid (HFin.out _ _ ho2 hg2 hb2)
                 obtain ⟨A2, c2, rfl⟩ := own_formk ho2
                 clear ho2 hg2 hb2)
    go_ret
    exact (by have h := HF.out; simp only [Nat.zero_add] at h; exact h)

end Go.Proofs.Ytpighdioomjnmab
