/-
  Layer 8: what Take tells of what was laid down. Written by an AI agent.
-/
import Derived.Test.YtoombjbpblighaaDoorCoY
import Derived.Test.YtoombjbpblighaaDoorCoL
namespace Go.Proofs.YtoombjbpblighaaDoor
open Go Go.RowKit Go.Shelf
set_option linter.unusedVariables false
set_option linter.unusedSimpArgs false

theorem own_rdB {w : World} {A : Option Addr} {c n : Nat} {l : List Int} (h : w.ownsRow 0 5 1 (.slice A n c) n (valB l)) (hn : n = l.length) : RdB w w.heap.size A l ∧ n ≤ c ∧ c ≤ 9223372036854775807 := by
  rcases h.2 with ⟨e1, h1⟩ | ⟨g, cap, cur, e1, hb, hg, hnc, hcm, r⟩
  · injection e1 with e2 e3 e4
    subst e4
    refine ⟨fun h0 => ?_, by omega, by omega⟩
    omega
  · injection e1 with e2 e3 e4
    subst e2 e4
    have hc := h.cells (g := g) rfl
    unfold maxLen at hcm
    refine ⟨fun h0 => ⟨g, 0, rfl, ?_, fun k hk => ?_⟩, hnc, hcm⟩
    · exact own_ltk h rfl
    · have := hc k (.int .u8 (l.getD k 0)) (by simp [valB, List.getD, hk])
      rw [addr_addr] at this
      exact this
/-- What may be laid down. -/
structure Lays (M : List Ins) (Y : List Int) : Prop where
  h1 : M.length ≤ 1200
  h2 : Y.length ≤ 6
  hM : ∀ x ∈ M, mayI x = true ∧ InsR x
  hY : ∀ a ∈ Y, 0 ≤ a ∧ a ≤ (M.length : Int)
def Took (M : List Ins) (Y : List Int) (w : World) (e : Ending) (w' : World) : Prop :=
  (∃ vI vE, e = .returned (.tuple #[.agg #[vI, vE], .int .i64 0]) ∧ w'.ownsRow 0 52 4 vI M.length (flatI M) ∧ w'.ownsRow 0 3 1 vE Y.length (valZ Y)) ∧ Keeps (fun _ => False) w w'
def Fell (er : Nat) (w : World) (e : Ending) (w' : World) : Prop := e = .returned (.tuple #[.agg #[.slice none 0 0, .slice none 0 0], .int .i64 (er : Int)]) ∧ Keeps (fun _ => False) w w'
theorem take_all {M : List Ins} {Y : List Int} (h : Lays M Y) {w : World} {e : Ending} {w' : World} (ht : TakeE (putB M Y) w e w') : Took M Y w e w' := by
  have hc := codeE_app M Y h.h1 h.h2 h.hM h.hY []
  rw [List.append_nil] at hc
  unfold TakeE TakeP at ht
  rw [hc, if_pos ⟨rfl, rfl⟩] at ht
  exact ht
theorem take_cut {M : List Ins} {Y : List Int} (h : Lays M Y) {n : Nat} (hn : n < (putB M Y).length) {w : World} {e : Ending} {w' : World} (ht : TakeE ((putB M Y).take n) w e w') : Fell 2 w e w' := by
  have hc := codeE_cut M Y h.h1 h.h2 h.hM h.hY n hn
  unfold TakeE TakeP at ht
  rw [hc, if_neg (by omega), if_neg (by omega)] at ht
  exact ht
theorem take_more {M : List Ins} {Y : List Int} (h : Lays M Y) {w : World} {e : Ending} {w' : World} (ht : TakeE (putB M Y ++ [0]) w e w') : Fell 3 w e w' := by
  have hc := codeE_app M Y h.h1 h.h2 h.hM h.hY [0]
  unfold TakeE TakeP at ht
  rw [hc, if_neg (by simp), if_pos rfl] at ht
  exact ht
theorem take_bytes {l : List Int} (hl : ∀ x ∈ l, 0 ≤ x ∧ x < 256) {w : World} {e : Ending} {w' : World} (ht : TakeE l w e w') :
    (∃ M Y, Lays M Y ∧ l = putB M Y ∧ Took M Y w e w') ∨ (∃ er : Nat, 0 < er ∧ Fell er w e w') := by
  by_cases h : (codeE ⟨l, 0⟩).1.e = 0 ∧ (codeE ⟨l, 0⟩).1.l = []
  · left
    obtain ⟨i1, i2, i3, i4, i5⟩ := codeE_inv ⟨l, 0⟩ hl h.1
    refine ⟨(codeE ⟨l, 0⟩).2.1, (codeE ⟨l, 0⟩).2.2, ⟨i2, i3, i4, i5⟩, ?_, ?_⟩
    · have : l = putB (codeE ⟨l, 0⟩).2.1 (codeE ⟨l, 0⟩).2.2 ++ (codeE ⟨l, 0⟩).1.l := i1
      rw [h.2, List.append_nil] at this
      exact this
    · unfold TakeE TakeP at ht
      rw [if_pos h] at ht
      exact ht
  · right
    unfold TakeE TakeP at ht
    rw [if_neg h] at ht
    by_cases h0 : (codeE ⟨l, 0⟩).1.e = 0
    · rw [if_pos h0] at ht
      exact ⟨3, by omega, ht⟩
    · rw [if_neg h0] at ht
      exact ⟨_, by omega, ht⟩
/-- What Put tells. -/
def Puts (M : List Ins) (Y : List Int) (w : World) (e : Ending) (w' : World) : Prop :=
  ((Lays M Y ∧ ∃ v, e = .returned (.tuple #[v, .int .i64 0]) ∧ OutB w' v (putB M Y)) ∨ (∃ er : Nat, (er = 4 ∨ er = 1) ∧ e = .returned (.tuple #[.slice none 0 0, .int .i64 (er : Int)]))) ∧ Keeps (fun _ => False) w w'
theorem puts_of {M : List Ins} {Y : List Int} (hM : ∀ x ∈ M, InsR x) {w : World} {e : Ending} {w' : World} (hp : PutE M Y w e w') : Puts M Y w e w' := by
  obtain ⟨hput, k⟩ := hp
  refine ⟨?_, k⟩
  by_cases h1 : 1200 < M.length ∨ 6 < Y.length
  · rw [if_pos h1] at hput
    exact .inr ⟨4, .inl rfl, hput⟩
  · rw [if_neg h1] at hput
    by_cases h2 : (∃ x ∈ M, mayI x = false) ∨ (∃ a ∈ Y, a < 0 ∨ (M.length : Int) < a)
    · rw [if_pos h2] at hput
      exact .inr ⟨1, .inr rfl, hput⟩
    · rw [if_neg h2] at hput
      obtain ⟨v, h3, h4, _⟩ := hput
      refine .inl ⟨⟨by omega, by omega, fun x hx => ⟨?_, hM x hx⟩, fun a ha => ?_⟩, v, h3, h4⟩
      · by_cases g : mayI x = true
        · exact g
        · exact absurd (.inl ⟨x, hx, by simpa using g⟩) h2
      · by_cases g : a < 0 ∨ (M.length : Int) < a
        · exact absurd (.inr ⟨a, ha, g⟩) h2
        · omega
theorem lays_puts {M : List Ins} {Y : List Int} (h : Lays M Y) {w : World} {e : Ending} {w' : World} (hp : PutE M Y w e w') : (∃ v, e = .returned (.tuple #[v, .int .i64 0]) ∧ OutB w' v (putB M Y)) ∧ Keeps (fun _ => False) w w' := by
  obtain ⟨hput, k⟩ := hp
  rw [if_neg (by have := h.h1; have := h.h2; omega), if_neg] at hput
  · obtain ⟨v, h3, h4, _⟩ := hput
    exact ⟨⟨v, h3, h4⟩, k⟩
  · rintro (⟨x, hx, g⟩ | ⟨a, ha, g⟩)
    · rw [(h.hM x hx).1] at g
      cases g
    · have := h.hY a ha
      omega
theorem flatB {M : List Ins} {Y : List Int} (hM : M.length ≤ 40) (hs : ∀ x ∈ M, x.s.size ≤ 50) (hY : Y.length ≤ 8) : (putB M Y).length ≤ 3000 := by
  have h8 : ∀ (l : List Int), (l.flatMap bytes8).length = l.length * 8 := fun l => by
    induction l with
    | nil => rfl
    | cons a l ih => rw [List.flatMap_cons, List.length_append, ih, List.length_cons, show (bytes8 a).length = 8 from rfl]; omega
  have h1 := flat60 M hs
  have h2 : M.length * 60 ≤ 40 * 60 := Nat.mul_le_mul_right _ hM
  unfold putB
  rw [List.length_append, List.length_append, List.length_append, h8]
  show 1 + Y.length * 8 + 8 + _ ≤ _
  omega
theorem putB_ok (M : List Ins) (Y : List Int) : ∀ x ∈ putB M Y, 0 ≤ x ∧ x < 256 := by
  have h8 : ∀ a : Int, ∀ x ∈ bytes8 a, 0 ≤ x ∧ x < 256 := fun a x hx => by
    simp only [bytes8, List.mem_map] at hx
    obtain ⟨k, _, rfl⟩ := hx
    exact byteN_ok a k
  have hi : ∀ i : Ins, ∀ x ∈ insB i, 0 ≤ x ∧ x < 256 := fun i x hx => by
    unfold insB at hx
    rcases List.mem_append.1 hx with hx | hx
    · rcases List.mem_append.1 hx with hx | hx
      · rcases List.mem_append.1 hx with hx | hx
        · simp at hx; omega
        · split at hx
          · exact h8 _ x hx
          · simp at hx
      · split at hx
        · exact h8 _ x hx
        · simp at hx
    · split at hx
      · rcases List.mem_cons.1 hx with rfl | hx
        · omega
        · simp only [strI, List.mem_map] at hx
          obtain ⟨c, _, rfl⟩ := hx
          have := c.toNat_lt
          omega
      · simp at hx
  intro x hx
  unfold putB at hx
  rcases List.mem_append.1 hx with hx | hx
  · rcases List.mem_append.1 hx with hx | hx
    · rcases List.mem_append.1 hx with hx | hx
      · simp at hx; omega
      · obtain ⟨a, _, ha⟩ := List.mem_flatMap.1 hx
        exact h8 a x ha
    · exact h8 _ x hx
  · obtain ⟨i, _, ha⟩ := List.mem_flatMap.1 hx
    exact hi i x ha

theorem own_empty (w : World) : (w.alloc (.cells #[] 5)).ownsRow 0 5 1 (.slice (some ⟨w.heap.size, 0, none⟩) 0 0) 0 (valB []) := World.ownsRow_lit w #[] 0 (Nat.zero_le _) (by decide) rfl
theorem run_append_nothing1 {P : Program} (w : World) (t ty e : TypeId) (i : TypeInfo) (ht : P.underlying t = some (.slice e)) (hi : P.info? e = some i) (base size : Nat) (v : Value) (n : Nat) (xs : List Value) (hown : w.ownsRow base e size v n xs) (c : Nat) :
    (Builtin.append_ #[t, t] ty #[v, .slice none 0 c]).run P w = .ok v w := by
  rcases hown.2 with ⟨rfl, rfl⟩ | ⟨g, cap, cur, rfl, _, _, hnc, _⟩
  · simp [Builtin.append_, run_underlying ht, sizeOf, typeInfo, hi, Builtin.lenOf, Builtin.firstCells]
  · simp [Builtin.append_, run_underlying ht, sizeOf, typeInfo, hi, Builtin.lenOf, Builtin.firstCells, hnc, storeCells]
set_option maxRecDepth 100000 in
/-- append of bytes that are read anywhere, or none. -/
theorem run_append_bytes (w : World) (v : Value) (l0 : List Int) (ho : OutB w v l0) (R : Nat) (A : Option Addr) (m c : Nat) (l : List Int) (hm : m = l.length) (hr : RdB w R A l) (h63 : l0.length + m ≤ 1000000) :
    ∃ v' w', (Builtin.append_ #[42, 42] 42 #[v, .slice A m c]).run Tryd.prog w = .ok v' w' ∧ OutB w' v' (l0 ++ l) ∧ Grows w v w' v' := by
  obtain ⟨i0, hi, hz0, hz1, hz2⟩ := info_parts info5
  rcases A with _ | ad
  · obtain rfl : l = [] := by
      rcases Nat.eq_zero_or_pos l.length with h0 | h0
      · exact List.eq_nil_of_length_eq_zero h0
      · obtain ⟨b, off, e, _⟩ := hr h0
        cases e
    subst hm
    refine ⟨v, w, run_append_nothing1 w 42 42 5 i0 Tryd.underlying42 hi 0 1 v _ _ ho c, by rw [List.append_nil]; exact ho, Grows.refl _ _⟩
  · have hnews : ∀ j u, (valB l)[j]? = some u → w.cell? (ad.add j) = some u := by
      intro j u hu
      have hj : j < l.length := by have := (List.getElem?_eq_some_iff.1 hu).1; rw [valB_length] at this; exact this
      obtain ⟨b, off, e, _, hc⟩ := hr (by omega)
      injection e with e
      subst e
      rw [addr_addr, hc j hj]
      rw [← hu]
      simp [valB, List.getD, hj]
    obtain ⟨v', w', h1, h2, h3, h4⟩ := run_append_atk (P := Tryd.prog) w 0 42 42 5 i0 _ 1 1 Tryd.underlying42 hi hz0 hz1 hz2 (by rfl) (by omega) v l0.length (valB l0) ho ad m c (valB l) (by rw [valB_length]; omega) hnews (valB_one _) (by unfold maxLen; omega) (by omega) (Nat.zero_le _)
    refine ⟨v', w', h1, ?_⟩
    exact outB_more l hm (Keeps.refl _ _) h2 h3 h4
theorem wpList_append_bytes {w : World} {ops : Array Oper} {rest : List Oper} {o : Oper} {a : Act} {Q : Exit → Act → World → Prop} (hgd : o.guard = none) (s x : Operand)
    (ho : o.op = .call { callee := .builtin .append, args := #[s, x], argTypes := #[42, 42] }) (hty : o.type = 42)
    (v : Value) (l0 : List Int) (hs : a.eval s = v) (hown : OutB w v l0) (R : Nat) (A : Option Addr) (m c : Nat) (l : List Int) (hx : a.eval x = .slice A m c) (hm : m = l.length) (hr : RdB w R A l) (h63 : l0.length + m ≤ 1000000)
    (h : ∀ v' w', OutB w' v' (l0 ++ l) → Grows w v w' v' → wpList Tryd.prog ops Q rest (a.put o.dst v') w') :
    wpList Tryd.prog ops Q (o :: rest) a w := by
  obtain ⟨v', w', hrun, q1, q2⟩ := run_append_bytes w v l0 hown R A m c l hm hr h63
  exact Lib.wpList_append_run w hgd s x 42 42 ho v _ hs hx v' w' (by rw [hty]; exact hrun) (h v' w' q1 q2)
/-- A copy behind nothing. -/
theorem copied {w w' : World} {v' : Value} {l : List Int} (ho : OutB w' v' ([] ++ l)) (hg : Grows (w.alloc (.cells #[] 5)) (.slice (some ⟨w.heap.size, 0, none⟩) 0 0) w' v') :
    ∃ A c, v' = .slice A l.length c ∧ RdB w' w'.heap.size A l ∧ l.length ≤ c ∧ c ≤ 9223372036854775807 ∧ OutB w' (.slice A l.length c) l ∧ (∀ g, (Value.slice A l.length c).ownBlock = some g → w.heap.size ≤ g) ∧ Keeps (fun _ => False) w w' := by
  rw [List.nil_append] at ho
  obtain ⟨A, c, rfl⟩ := own_formk ho
  obtain ⟨h1, h2, h3⟩ := own_rdB ho rfl
  refine ⟨A, c, rfl, h1, h2, h3, ho, fun g hg2 => ?_, ?_⟩
  · rcases hg.2 g hg2 with e | e
    · have e : some g = some w.heap.size := e
      have := Option.some.inj e
      omega
    · simp at e
      omega
  have k1 : Keeps (fun p => w.heap.size ≤ p) w (w.alloc (.cells #[] 5)) := (Keeps.refl _ _).alloc _
  have k2 := hg.1
  exact kback (k1.trans k2 (fun p hp e => by
    have e : some p = some w.heap.size := e
    have := Option.some.inj e
    omega)) rfl
end Go.Proofs.YtoombjbpblighaaDoor
