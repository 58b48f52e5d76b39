/-
  Layer 2: a tree in memory that may be written to. Written by an AI agent.
-/
import Derived.Test.YtgelggdgbmldiaaDoorMkbl
namespace Go.Proofs.YtgelggdgbmldiaaDoor
open Go Go.RowKit Go.Shelf
set_option linter.unusedVariables false
set_option linter.unusedSimpArgs false
def zN (x : NM) : NM := { x with d := un x.d }
def zF (x : FM) : FM := { x with d := unF x.d }
def atN (L : List NM) (i k : Nat) (hk : k < L.length) : NM := if k < i then zN L[k] else L[k]
def atF (L : List FM) (i k : Nat) (hk : k < L.length) : FM := if k < i then zF L[k] else L[k]
/-- A tree of its own, in blocks from lo to hi; the lines of its first i nodes, and j functions, are nought. -/
structure TreeW (lo hi : Nat) (w : World) (A A' : Option Addr) (L : List NM) (M : List FM) (i j : Nat) : Prop where
  nodes : 0 < L.length → ∃ b, A = some ⟨b, 0, none⟩ ∧ lo ≤ b ∧ b < hi ∧ (∀ k, w.frozen? ⟨b, k, none⟩ = false) ∧ ∀ k (hk : k < L.length) q u, (atN L i k hk).cells[q]? = some u → w.cell? ⟨b, k * 5 + q, none⟩ = some u
  fns : 0 < M.length → ∃ b, A' = some ⟨b, 0, none⟩ ∧ lo ≤ b ∧ b < hi ∧ (∀ k, w.frozen? ⟨b, k, none⟩ = false) ∧ ∀ k (hk : k < M.length) q u, (atF M j k hk).cells[q]? = some u → w.cell? ⟨b, k * 5 + q, none⟩ = some u
  sep : ∀ b b' o o', A = some ⟨b, o, none⟩ → A' = some ⟨b', o', none⟩ → b ≠ b'
  ls : ∀ x ∈ L, RdI w x.a x.d.l ∧ (0 < x.d.l.length → ∀ b off, x.a = some ⟨b, off, none⟩ → lo ≤ b ∧ b < hi ∧ (∀ o, A ≠ some ⟨b, o, none⟩) ∧ (∀ o, A' ≠ some ⟨b, o, none⟩))
  ps : ∀ x ∈ M, RdG w x.a (flatP x.d.ps) ∧ (0 < (flatP x.d.ps).length → ∀ b off, x.a = some ⟨b, off, none⟩ → lo ≤ b ∧ b < hi ∧ (∀ o, A ≠ some ⟨b, o, none⟩) ∧ (∀ o, A' ≠ some ⟨b, o, none⟩))
theorem TreeW.keepS {lo hi : Nat} {w w' : World} {A A' : Option Addr} {L : List NM} {M : List FM} {i j : Nat} (h : TreeW lo hi w A A' L M i j) {S : Nat → Prop} (k : Keeps S w w') (hS : ∀ b, lo ≤ b → b < hi → ¬ S b) : TreeW lo hi w' A A' L M i j where
  nodes := fun h0 => by
    obtain ⟨b, e, h1, h2, h3, h4⟩ := h.nodes h0
    have hb : b < w.heap.size := cell_ltk (h4 0 h0 0 _ rfl)
    exact ⟨b, e, h1, h2, fun q => (k.frozen hb (hS b h1 h2)).trans (h3 q), fun q hq r u hu => (k.cell hb (hS b h1 h2)).trans (h4 q hq r u hu)⟩
  fns := fun h0 => by
    obtain ⟨b, e, h1, h2, h3, h4⟩ := h.fns h0
    have hb : b < w.heap.size := cell_ltk (h4 0 h0 0 _ rfl)
    exact ⟨b, e, h1, h2, fun q => (k.frozen hb (hS b h1 h2)).trans (h3 q), fun q hq r u hu => (k.cell hb (hS b h1 h2)).trans (h4 q hq r u hu)⟩
  sep := h.sep
  ls := fun x hx => ⟨(h.ls x hx).1.keep k (fun h0 b off e => hS b ((h.ls x hx).2 h0 b off e).1 ((h.ls x hx).2 h0 b off e).2.1), (h.ls x hx).2⟩
  ps := fun x hx => ⟨(h.ps x hx).1.keep k (fun h0 b off e => hS b ((h.ps x hx).2 h0 b off e).1 ((h.ps x hx).2 h0 b off e).2.1), (h.ps x hx).2⟩
theorem TreeW.keep {lo hi : Nat} {w w' : World} {A A' : Option Addr} {L : List NM} {M : List FM} {i j : Nat} (h : TreeW lo hi w A A' L M i j) (k : Keeps (fun _ => False) w w') : TreeW lo hi w' A A' L M i j := h.keepS k (fun _ _ _ h => h)
/-- A cell of a row of five that is written. -/
theorem five_set {w : World} {b i k q : Nat} {v u x : Value} (hq : q < 5) (h : w.cell? ⟨b, i * 5 + 1, none⟩ = some x) (hk : w.cell? ⟨b, k * 5 + q, none⟩ = some u) : (w.setCell ⟨b, i * 5 + 1, none⟩ v).cell? ⟨b, k * 5 + q, none⟩ = some (if k = i ∧ q = 1 then v else u) := by
  by_cases hc : k = i ∧ q = 1
  · rw [if_pos hc, hc.1, hc.2]
    exact cell_same w b _ v x h
  · rw [if_neg hc]
    refine (cell_other w _ _ v (.inl ?_)).trans hk
    omega
theorem cells_zN (x : NM) (q : Nat) (u : Value) (h : (zN x).cells[q]? = some u) : q < 5 ∧ ∃ u', x.cells[q]? = some u' ∧ u = if q = 1 then .int .i64 0 else u' := by
  match q, h with
  | 0, h => exact ⟨by omega, _, rfl, (Option.some.inj h).symm⟩
  | 1, h => exact ⟨by omega, _, rfl, (Option.some.inj h).symm⟩
  | 2, h => exact ⟨by omega, _, rfl, (Option.some.inj h).symm⟩
  | 3, h => exact ⟨by omega, _, rfl, (Option.some.inj h).symm⟩
  | 4, h => exact ⟨by omega, _, rfl, (Option.some.inj h).symm⟩
theorem cells_zF (x : FM) (q : Nat) (u : Value) (h : (zF x).cells[q]? = some u) : q < 5 ∧ ∃ u', x.cells[q]? = some u' ∧ u = if q = 1 then .int .i64 0 else u' := by
  match q, h with
  | 0, h => exact ⟨by omega, _, rfl, (Option.some.inj h).symm⟩
  | 1, h => exact ⟨by omega, _, rfl, (Option.some.inj h).symm⟩
  | 2, h => exact ⟨by omega, _, rfl, (Option.some.inj h).symm⟩
  | 3, h => exact ⟨by omega, _, rfl, (Option.some.inj h).symm⟩
  | 4, h => exact ⟨by omega, _, rfl, (Option.some.inj h).symm⟩
theorem NM.lt5 {x : NM} {q : Nat} {u : Value} (h : x.cells[q]? = some u) : q < 5 := (List.getElem?_eq_some_iff.1 h).1
theorem FM.lt5 {x : FM} {q : Nat} {u : Value} (h : x.cells[q]? = some u) : q < 5 := (List.getElem?_eq_some_iff.1 h).1
/-- The next node's line becomes nought. -/
theorem TreeW.setN {lo hi : Nat} {w : World} {A A' : Option Addr} {L : List NM} {M : List FM} {i j : Nat} (h : TreeW lo hi w A A' L M i j) (hi2 : i < L.length) : ∃ b x, A = some ⟨b, 0, none⟩ ∧ lo ≤ b ∧ b < hi ∧ w.cell? ⟨b, i * 5 + 1, none⟩ = some x ∧ w.frozen? ⟨b, i * 5 + 1, none⟩ = false ∧ TreeW lo hi (w.setCell ⟨b, i * 5 + 1, none⟩ (.int .i64 0)) A A' L M (i + 1) j := by
  obtain ⟨b, e, h1, h2, h3, h4⟩ := h.nodes (by omega)
  have hc : w.cell? ⟨b, i * 5 + 1, none⟩ = some (.int .i64 (L[i]).d.ln) := h4 i hi2 1 _ (by unfold atN; rw [if_neg (Nat.lt_irrefl _)]; rfl)
  have k : Keeps (fun x => x = b) w (w.setCell ⟨b, i * 5 + 1, none⟩ (.int .i64 0)) := (Keeps.refl (fun x => x = b) w).setCell (p := ⟨b, i * 5 + 1, none⟩) (fun _ => rfl) _
  refine ⟨b, _, e, h1, h2, hc, h3 _, ?_⟩
  refine { nodes := fun h0 => ⟨b, e, h1, h2, fun q => (World.frozen?_setCell w _ _ _).trans (h3 q), fun q hq r u hu => ?_⟩, fns := fun h0 => ?_, sep := h.sep, ls := fun x hx => ⟨(h.ls x hx).1.keep k (fun h0 b' off e' hb => ((h.ls x hx).2 h0 b' off e').2.2.1 0 (by rw [e, show b' = b from hb])), (h.ls x hx).2⟩, ps := fun x hx => ⟨(h.ps x hx).1.keep k (fun h0 b' off e' hb => ((h.ps x hx).2 h0 b' off e').2.2.1 0 (by rw [e, show b' = b from hb])), (h.ps x hx).2⟩ }
  · have h5 := NM.lt5 hu
    unfold atN at hu
    by_cases hqi : q = i
    · subst hqi
      rw [if_pos (Nat.lt_succ_self _)] at hu
      obtain ⟨_, u', h6, h7⟩ := cells_zN _ _ _ hu
      have h8 := h4 q hq r u' (by unfold atN; rw [if_neg (Nat.lt_irrefl _)]; exact h6)
      rw [five_set h5 hc h8, h7]
      simp
    · have h8 := h4 q hq r u (by unfold atN; rw [← hu]; by_cases hlt : q < i
                                 · rw [if_pos hlt, if_pos (by omega)]
                                 · rw [if_neg hlt, if_neg (by omega)])
      rw [five_set h5 hc h8, if_neg (fun hh => hqi hh.1)]
  · obtain ⟨b', e', g1, g2, g3, g4⟩ := h.fns h0
    have hne := h.sep b b' 0 0 e e'
    have hb : b' < w.heap.size := cell_ltk (g4 0 h0 0 _ rfl)
    exact ⟨b', e', g1, g2, fun q => (k.frozen hb (fun hh => hne hh.symm)).trans (g3 q), fun q hq r u hu => (k.cell hb (fun hh => hne hh.symm)).trans (g4 q hq r u hu)⟩
/-- The next function's line becomes nought. -/
theorem TreeW.setF {lo hi : Nat} {w : World} {A A' : Option Addr} {L : List NM} {M : List FM} {i j : Nat} (h : TreeW lo hi w A A' L M i j) (hj2 : j < M.length) : ∃ b x, A' = some ⟨b, 0, none⟩ ∧ lo ≤ b ∧ b < hi ∧ w.cell? ⟨b, j * 5 + 1, none⟩ = some x ∧ w.frozen? ⟨b, j * 5 + 1, none⟩ = false ∧ TreeW lo hi (w.setCell ⟨b, j * 5 + 1, none⟩ (.int .i64 0)) A A' L M i (j + 1) := by
  obtain ⟨b, e, h1, h2, h3, h4⟩ := h.fns (by omega)
  have hc : w.cell? ⟨b, j * 5 + 1, none⟩ = some (.int .i64 (M[j]).d.ln) := h4 j hj2 1 _ (by unfold atF; rw [if_neg (Nat.lt_irrefl _)]; rfl)
  have k : Keeps (fun x => x = b) w (w.setCell ⟨b, j * 5 + 1, none⟩ (.int .i64 0)) := (Keeps.refl (fun x => x = b) w).setCell (p := ⟨b, j * 5 + 1, none⟩) (fun _ => rfl) _
  refine ⟨b, _, e, h1, h2, hc, h3 _, ?_⟩
  refine { nodes := fun h0 => ?_, fns := fun h0 => ⟨b, e, h1, h2, fun q => (World.frozen?_setCell w _ _ _).trans (h3 q), fun q hq r u hu => ?_⟩, sep := h.sep, ls := fun x hx => ⟨(h.ls x hx).1.keep k (fun h0 b' off e' hb => ((h.ls x hx).2 h0 b' off e').2.2.2 0 (by rw [e, show b' = b from hb])), (h.ls x hx).2⟩, ps := fun x hx => ⟨(h.ps x hx).1.keep k (fun h0 b' off e' hb => ((h.ps x hx).2 h0 b' off e').2.2.2 0 (by rw [e, show b' = b from hb])), (h.ps x hx).2⟩ }
  · obtain ⟨b', e', g1, g2, g3, g4⟩ := h.nodes h0
    have hne := h.sep b' b 0 0 e' e
    have hb : b' < w.heap.size := cell_ltk (g4 0 h0 0 _ rfl)
    exact ⟨b', e', g1, g2, fun q => (k.frozen hb (fun hh => hne hh)).trans (g3 q), fun q hq r u hu => (k.cell hb (fun hh => hne hh)).trans (g4 q hq r u hu)⟩
  · have h5 := FM.lt5 hu
    unfold atF at hu
    by_cases hqi : q = j
    · subst hqi
      rw [if_pos (Nat.lt_succ_self _)] at hu
      obtain ⟨_, u', h6, h7⟩ := cells_zF _ _ _ hu
      have h8 := h4 q hq r u' (by unfold atF; rw [if_neg (Nat.lt_irrefl _)]; exact h6)
      rw [five_set h5 hc h8, h7]
      simp
    · have h8 := h4 q hq r u (by unfold atF; rw [← hu]; by_cases hlt : q < j
                                 · rw [if_pos hlt, if_pos (by omega)]
                                 · rw [if_neg hlt, if_neg (by omega)])
      rw [five_set h5 hc h8, if_neg (fun hh => hqi hh.1)]
theorem rdG_nodes {w : World} {b : Nat} {L : List NM} (h : ∀ k (hk : k < L.length) q u, (L[k]).cells[q]? = some u → w.cell? ⟨b, k * 5 + q, none⟩ = some u) : RdG w (some ⟨b, 0, none⟩) (flatN L) := fun h0 => by
  refine ⟨b, 0, rfl, fun k u hu => ?_⟩
  have hk : k < L.length * 5 := by rw [← flatN_length]; exact (List.getElem?_eq_some_iff.1 hu).1
  have h1 : k / 5 < L.length := by omega
  have h2 : k / 5 * 5 + k % 5 = k := by omega
  rw [← h2] at hu
  rw [flatN_at L _ _ h1 (by omega)] at hu
  have := h (k / 5) h1 (k % 5) u hu
  rw [h2] at this
  rw [Nat.zero_add]
  exact this
theorem rdG_fns {w : World} {b : Nat} {L : List FM} (h : ∀ k (hk : k < L.length) q u, (L[k]).cells[q]? = some u → w.cell? ⟨b, k * 5 + q, none⟩ = some u) : RdG w (some ⟨b, 0, none⟩) (flatF L) := fun h0 => by
  refine ⟨b, 0, rfl, fun k u hu => ?_⟩
  have hk : k < L.length * 5 := by rw [← flatF_length]; exact (List.getElem?_eq_some_iff.1 hu).1
  have h1 : k / 5 < L.length := by omega
  have h2 : k / 5 * 5 + k % 5 = k := by omega
  rw [← h2] at hu
  rw [flatF_at L _ _ h1 (by omega)] at hu
  have := h (k / 5) h1 (k % 5) u hu
  rw [h2] at this
  rw [Nat.zero_add]
  exact this
/-- A tree whose lines are nought. -/
theorem TreeW.toR {lo hi : Nat} {w : World} {A A' : Option Addr} {L : List NM} {M : List FM} {i j : Nat} (h : TreeW lo hi w A A' L M i j) (hi2 : i = L.length) (hj : j = M.length) : TreeR 0 w A A' ((L.map NM.d).map un) ((M.map FM.d).map unF) := by
  refine ⟨⟨L.map zN, by simp only [List.map_map]; rfl, ?_, ?_⟩, ⟨M.map zF, by simp only [List.map_map]; rfl, ?_, ?_⟩⟩
  · intro h0
    rw [flatN_length, List.length_map] at h0
    obtain ⟨b, e, _, _, _, h4⟩ := h.nodes (by omega)
    subst e
    refine rdG_nodes (fun k hk q u hu => ?_) (by rw [flatN_length, List.length_map]; exact h0)
    rw [List.getElem_map] at hu
    rw [List.length_map] at hk
    exact h4 k hk q u (by unfold atN; rw [if_pos (by omega)]; exact hu)
  · intro x hx
    obtain ⟨y, hy, rfl⟩ := List.mem_map.1 hx
    exact (h.ls y hy).1
  · intro h0
    rw [flatF_length, List.length_map] at h0
    obtain ⟨b, e, _, _, _, h4⟩ := h.fns (by omega)
    subst e
    refine rdG_fns (fun k hk q u hu => ?_) (by rw [flatF_length, List.length_map]; exact h0)
    rw [List.getElem_map] at hu
    rw [List.length_map] at hk
    exact h4 k hk q u (by unfold atF; rw [if_pos (by omega)]; exact hu)
  · intro x hx
    obtain ⟨y, hy, rfl⟩ := List.mem_map.1 hx
    exact (h.ps y hy).1
theorem own_row {w : World} {e : TypeId} {A : Option Addr} {n c : Nat} {xs : List Value} (h : w.ownsRow 0 e 5 (.slice A n c) n xs) (h0 : 0 < n) : ∃ b, A = some ⟨b, 0, none⟩ ∧ (Value.slice A n c).ownBlock = some b ∧ (∀ k, w.frozen? ⟨b, k, none⟩ = false) ∧ ∀ k u, xs[k]? = some u → w.cell? ⟨b, k, none⟩ = some u := by
  rcases h.2 with ⟨e1, h1⟩ | ⟨g, cap, cur, e1, _, hg, _⟩
  · omega
  · have e2 : A = some ⟨g, 0, none⟩ := by injection e1
    subst e2
    refine ⟨g, rfl, rfl, fun k => by simp [World.frozen?, hg], fun j u hu => ?_⟩
    have hj : j < n * 5 := by rw [← h.1]; exact (List.getElem?_eq_some_iff.1 hu).1
    exact (h.cellAt j hj).trans hu
/-- What a parser tells: a tree of its own. -/
def TreeX (lo : Nat) (res : (Nat × Nat) ⊕ (List Nd × List Fnc)) (e : Ending) (w' : World) : Prop :=
  match res with
  | .inl pe => e = .returned (.tuple #[.agg #[.slice none 0 0, .slice none 0 0], .int .i64 (pe.1 : Int), .int .i64 (pe.2 : Int)])
  | .inr t => ∃ A c A' c', e = .returned (.tuple #[.agg #[.slice A t.1.length c, .slice A' t.2.length c'], .int .i64 0, .int .i64 0]) ∧ ∃ L M, L.map NM.d = t.1 ∧ M.map FM.d = t.2 ∧ TreeW lo w'.heap.size w' A A' L M 0 0
theorem treeX_inl {B p er : Nat} {res : (Nat × Nat) ⊕ (List Nd × List Fnc)} (h : res = .inl (p, er)) (w' : World) : TreeX B res (.returned (.tuple #[.agg #[.slice none 0 0, .slice none 0 0], .int .i64 (p : Int), .int .i64 (er : Int)])) w' := by
  rw [h]
  exact rfl
theorem treeX_inr {B : Nat} {res : (Nat × Nat) ⊕ (List Nd × List Fnc)} {nd : List Nd} {fs : List Fnc} (h : res = .inr (nd, fs)) {w' : World} {A A' : Option Addr} {c c' m n : Nat} (hm : m = nd.length) (hn : n = fs.length) (ht : ∃ L M, L.map NM.d = nd ∧ M.map FM.d = fs ∧ TreeW B w'.heap.size w' A A' L M 0 0) : TreeX B res (.returned (.tuple #[.agg #[.slice A m c, .slice A' n c'], .int .i64 0, .int .i64 0])) w' := by
  rw [h, hm, hn]
  exact ⟨A, c, A', c', rfl, ht⟩
end Go.Proofs.YtgelggdgbmldiaaDoor
