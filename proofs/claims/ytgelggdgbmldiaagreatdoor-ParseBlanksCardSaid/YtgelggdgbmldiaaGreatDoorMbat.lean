/-
  Layer 2: a tree in memory that may be written to. Written by an AI agent.
  Layer 2: All, that tells a tree of its own. Written by an AI agent.
  Layer 2: two trees of their own, with lines that become nought. Written by an AI agent.
  Layer 2: two sources, one behind the other: what a walk asks for. Written by an AI agent.
-/
import Derived.Test.YtgelggdgbmldiaaGreatDoorMbao
import Derived.Test.YtgelggdgbmldiaaGreatDoorMbas
import Derived.Deep.LoopGhost
import Derived.Test.YtgelggdgbmldiaaGreatDoorMbaq
namespace Go.Proofs.YtgelggdgbmldiaaGreatDoor
open Go Go.RowKit Go.Shelf
set_option linter.unusedVariables false
set_option linter.unusedSimpArgs false

def zN (x : NM) : NM := { x with d := un x.d }
def zF (x : FM) : FM := { x with d := unF x.d }
def atN (L : List NM) (i k : Nat) (hk : k < L.length) : NM := if k < i then zN L[k] else L[k]
def atF (L : List FM) (i k : Nat) (hk : k < L.length) : FM := if k < i then zF L[k] else L[k]

/-- A tree of its own, in blocks from lo to hi; the lines of its first i nodes, and j functions, are nought. -/
structure TreeW (lo hi : Nat) (w : World) (A A' : Option Addr) (L : List NM) (M : List FM) (i j : Nat) : Prop where
  nodes : 0 < L.length → ∃ b, A = some ⟨b, 0, none⟩ ∧ lo ≤ b ∧ b < hi ∧ (∀ k, w.frozen? ⟨b, k, none⟩ = false) ∧ ∀ k (hk : k < L.length) q u, (atN L i k hk).cells[q]? = some u → w.cell? ⟨b, k * 5 + q, none⟩ = some u
  fns : 0 < M.length → ∃ b, A' = some ⟨b, 0, none⟩ ∧ lo ≤ b ∧ b < hi ∧ (∀ k, w.frozen? ⟨b, k, none⟩ = false) ∧ ∀ k (hk : k < M.length) q u, (atF M j k hk).cells[q]? = some u → w.cell? ⟨b, k * 5 + q, none⟩ = some u
  sep : ∀ b b' o o', A = some ⟨b, o, none⟩ → A' = some ⟨b', o', none⟩ → b ≠ b'
  ls : ∀ x ∈ L, RdI w x.a x.d.l ∧ (0 < x.d.l.length → ∀ b off, x.a = some ⟨b, off, none⟩ → lo ≤ b ∧ b < hi ∧ (∀ o, A ≠ some ⟨b, o, none⟩) ∧ (∀ o, A' ≠ some ⟨b, o, none⟩))
  ps : ∀ x ∈ M, RdG w x.a (flatP x.d.ps) ∧ (0 < (flatP x.d.ps).length → ∀ b off, x.a = some ⟨b, off, none⟩ → lo ≤ b ∧ b < hi ∧ (∀ o, A ≠ some ⟨b, o, none⟩) ∧ (∀ o, A' ≠ some ⟨b, o, none⟩))

theorem TreeW.keepS {lo hi : Nat} {w w' : World} {A A' : Option Addr} {L : List NM} {M : List FM} {i j : Nat} (h : TreeW lo hi w A A' L M i j) {S : Nat → Prop} (k : Keeps S w w') (hS : ∀ b, lo ≤ b → b < hi → ¬ S b) : TreeW lo hi w' A A' L M i j where
  nodes := fun h0 => by
    obtain ⟨b, e, h1, h2, h3, h4⟩ := h.nodes h0
    have hb : b < w.heap.size := cell_ltk (h4 0 h0 0 _ rfl)
    exact ⟨b, e, h1, h2, fun q => (k.frozen hb (hS b h1 h2)).trans (h3 q), fun q hq r u hu => (k.cell hb (hS b h1 h2)).trans (h4 q hq r u hu)⟩
  fns := fun h0 => by
    obtain ⟨b, e, h1, h2, h3, h4⟩ := h.fns h0
    have hb : b < w.heap.size := cell_ltk (h4 0 h0 0 _ rfl)
    exact ⟨b, e, h1, h2, fun q => (k.frozen hb (hS b h1 h2)).trans (h3 q), fun q hq r u hu => (k.cell hb (hS b h1 h2)).trans (h4 q hq r u hu)⟩
  sep := h.sep
  ls := fun x hx => ⟨(h.ls x hx).1.keep k (fun h0 b off e => hS b ((h.ls x hx).2 h0 b off e).1 ((h.ls x hx).2 h0 b off e).2.1), (h.ls x hx).2⟩
  ps := fun x hx => ⟨(h.ps x hx).1.keep k (fun h0 b off e => hS b ((h.ps x hx).2 h0 b off e).1 ((h.ps x hx).2 h0 b off e).2.1), (h.ps x hx).2⟩
theorem TreeW.keep {lo hi : Nat} {w w' : World} {A A' : Option Addr} {L : List NM} {M : List FM} {i j : Nat} (h : TreeW lo hi w A A' L M i j) (k : Keeps (fun _ => False) w w') : TreeW lo hi w' A A' L M i j := h.keepS k (fun _ _ _ h => h)

/-- A cell of a row of five that is written. -/
theorem five_set {w : World} {b i k q : Nat} {v u x : Value} (hq : q < 5) (h : w.cell? ⟨b, i * 5 + 1, none⟩ = some x) (hk : w.cell? ⟨b, k * 5 + q, none⟩ = some u) : (w.setCell ⟨b, i * 5 + 1, none⟩ v).cell? ⟨b, k * 5 + q, none⟩ = some (if k = i ∧ q = 1 then v else u) := by
  by_cases hc : k = i ∧ q = 1
  · rw [if_pos hc, hc.1, hc.2]
    exact cell_same w b _ v x h
  · rw [if_neg hc]
    refine (cell_other w _ _ v (.inl ?_)).trans hk
    omega
theorem cells_zN (x : NM) (q : Nat) (u : Value) (h : (zN x).cells[q]? = some u) : q < 5 ∧ ∃ u', x.cells[q]? = some u' ∧ u = if q = 1 then .int .i64 0 else u' := by
  match q, h with
  | 0, h => exact ⟨by omega, _, rfl, (Option.some.inj h).symm⟩
  | 1, h => exact ⟨by omega, _, rfl, (Option.some.inj h).symm⟩
  | 2, h => exact ⟨by omega, _, rfl, (Option.some.inj h).symm⟩
  | 3, h => exact ⟨by omega, _, rfl, (Option.some.inj h).symm⟩
  | 4, h => exact ⟨by omega, _, rfl, (Option.some.inj h).symm⟩
theorem cells_zF (x : FM) (q : Nat) (u : Value) (h : (zF x).cells[q]? = some u) : q < 5 ∧ ∃ u', x.cells[q]? = some u' ∧ u = if q = 1 then .int .i64 0 else u' := by
  match q, h with
  | 0, h => exact ⟨by omega, _, rfl, (Option.some.inj h).symm⟩
  | 1, h => exact ⟨by omega, _, rfl, (Option.some.inj h).symm⟩
  | 2, h => exact ⟨by omega, _, rfl, (Option.some.inj h).symm⟩
  | 3, h => exact ⟨by omega, _, rfl, (Option.some.inj h).symm⟩
  | 4, h => exact ⟨by omega, _, rfl, (Option.some.inj h).symm⟩
theorem NM.lt5 {x : NM} {q : Nat} {u : Value} (h : x.cells[q]? = some u) : q < 5 := (List.getElem?_eq_some_iff.1 h).1
theorem FM.lt5 {x : FM} {q : Nat} {u : Value} (h : x.cells[q]? = some u) : q < 5 := (List.getElem?_eq_some_iff.1 h).1

/-- The next node's line becomes nought. -/
theorem TreeW.setN {lo hi : Nat} {w : World} {A A' : Option Addr} {L : List NM} {M : List FM} {i j : Nat} (h : TreeW lo hi w A A' L M i j) (hi2 : i < L.length) : ∃ b x, A = some ⟨b, 0, none⟩ ∧ lo ≤ b ∧ b < hi ∧ w.cell? ⟨b, i * 5 + 1, none⟩ = some x ∧ w.frozen? ⟨b, i * 5 + 1, none⟩ = false ∧ TreeW lo hi (w.setCell ⟨b, i * 5 + 1, none⟩ (.int .i64 0)) A A' L M (i + 1) j := by
  obtain ⟨b, e, h1, h2, h3, h4⟩ := h.nodes (by omega)
  have hc : w.cell? ⟨b, i * 5 + 1, none⟩ = some (.int .i64 (L[i]).d.ln) := h4 i hi2 1 _ (by unfold atN; rw [if_neg (Nat.lt_irrefl _)]; rfl)
  have k : Keeps (fun x => x = b) w (w.setCell ⟨b, i * 5 + 1, none⟩ (.int .i64 0)) := (Keeps.refl (fun x => x = b) w).setCell (p := ⟨b, i * 5 + 1, none⟩) (fun _ => rfl) _
  refine ⟨b, _, e, h1, h2, hc, h3 _, ?_⟩
  refine { nodes := fun h0 => ⟨b, e, h1, h2, fun q => (World.frozen?_setCell w _ _ _).trans (h3 q), fun q hq r u hu => ?_⟩, fns := fun h0 => ?_, sep := h.sep, ls := fun x hx => ⟨(h.ls x hx).1.keep k (fun h0 b' off e' hb => ((h.ls x hx).2 h0 b' off e').2.2.1 0 (by rw [e, show b' = b from hb])), (h.ls x hx).2⟩, ps := fun x hx => ⟨(h.ps x hx).1.keep k (fun h0 b' off e' hb => ((h.ps x hx).2 h0 b' off e').2.2.1 0 (by rw [e, show b' = b from hb])), (h.ps x hx).2⟩ }
  · have h5 := NM.lt5 hu
    unfold atN at hu
    by_cases hqi : q = i
    · subst hqi
      rw [if_pos (Nat.lt_succ_self _)] at hu
      obtain ⟨_, u', h6, h7⟩ := cells_zN _ _ _ hu
      have h8 := h4 q hq r u' (by unfold atN; rw [if_neg (Nat.lt_irrefl _)]; exact h6)
      rw [five_set h5 hc h8, h7]
      simp
    · have h8 := h4 q hq r u (by unfold atN; rw [← hu]; by_cases hlt : q < i
                                 · rw [if_pos hlt, if_pos (by omega)]
                                 · rw [if_neg hlt, if_neg (by omega)])
      rw [five_set h5 hc h8, if_neg (fun hh => hqi hh.1)]
  · obtain ⟨b', e', g1, g2, g3, g4⟩ := h.fns h0
    have hne := h.sep b b' 0 0 e e'
    have hb : b' < w.heap.size := cell_ltk (g4 0 h0 0 _ rfl)
    exact ⟨b', e', g1, g2, fun q => (k.frozen hb (fun hh => hne hh.symm)).trans (g3 q), fun q hq r u hu => (k.cell hb (fun hh => hne hh.symm)).trans (g4 q hq r u hu)⟩
/-- The next function's line becomes nought. -/
theorem TreeW.setF {lo hi : Nat} {w : World} {A A' : Option Addr} {L : List NM} {M : List FM} {i j : Nat} (h : TreeW lo hi w A A' L M i j) (hj2 : j < M.length) : ∃ b x, A' = some ⟨b, 0, none⟩ ∧ lo ≤ b ∧ b < hi ∧ w.cell? ⟨b, j * 5 + 1, none⟩ = some x ∧ w.frozen? ⟨b, j * 5 + 1, none⟩ = false ∧ TreeW lo hi (w.setCell ⟨b, j * 5 + 1, none⟩ (.int .i64 0)) A A' L M i (j + 1) := by
  obtain ⟨b, e, h1, h2, h3, h4⟩ := h.fns (by omega)
  have hc : w.cell? ⟨b, j * 5 + 1, none⟩ = some (.int .i64 (M[j]).d.ln) := h4 j hj2 1 _ (by unfold atF; rw [if_neg (Nat.lt_irrefl _)]; rfl)
  have k : Keeps (fun x => x = b) w (w.setCell ⟨b, j * 5 + 1, none⟩ (.int .i64 0)) := (Keeps.refl (fun x => x = b) w).setCell (p := ⟨b, j * 5 + 1, none⟩) (fun _ => rfl) _
  refine ⟨b, _, e, h1, h2, hc, h3 _, ?_⟩
  refine { nodes := fun h0 => ?_, fns := fun h0 => ⟨b, e, h1, h2, fun q => (World.frozen?_setCell w _ _ _).trans (h3 q), fun q hq r u hu => ?_⟩, sep := h.sep, ls := fun x hx => ⟨(h.ls x hx).1.keep k (fun h0 b' off e' hb => ((h.ls x hx).2 h0 b' off e').2.2.2 0 (by rw [e, show b' = b from hb])), (h.ls x hx).2⟩, ps := fun x hx => ⟨(h.ps x hx).1.keep k (fun h0 b' off e' hb => ((h.ps x hx).2 h0 b' off e').2.2.2 0 (by rw [e, show b' = b from hb])), (h.ps x hx).2⟩ }
  · obtain ⟨b', e', g1, g2, g3, g4⟩ := h.nodes h0
    have hne := h.sep b' b 0 0 e' e
    have hb : b' < w.heap.size := cell_ltk (g4 0 h0 0 _ rfl)
    exact ⟨b', e', g1, g2, fun q => (k.frozen hb (fun hh => hne hh)).trans (g3 q), fun q hq r u hu => (k.cell hb (fun hh => hne hh)).trans (g4 q hq r u hu)⟩
  · have h5 := FM.lt5 hu
    unfold atF at hu
    by_cases hqi : q = j
    · subst hqi
      rw [if_pos (Nat.lt_succ_self _)] at hu
      obtain ⟨_, u', h6, h7⟩ := cells_zF _ _ _ hu
      have h8 := h4 q hq r u' (by unfold atF; rw [if_neg (Nat.lt_irrefl _)]; exact h6)
      rw [five_set h5 hc h8, h7]
      simp
    · have h8 := h4 q hq r u (by unfold atF; rw [← hu]; by_cases hlt : q < j
                                 · rw [if_pos hlt, if_pos (by omega)]
                                 · rw [if_neg hlt, if_neg (by omega)])
      rw [five_set h5 hc h8, if_neg (fun hh => hqi hh.1)]

theorem rdG_nodes {w : World} {b : Nat} {L : List NM} (h : ∀ k (hk : k < L.length) q u, (L[k]).cells[q]? = some u → w.cell? ⟨b, k * 5 + q, none⟩ = some u) : RdG w (some ⟨b, 0, none⟩) (flatN L) := fun h0 => by
  refine ⟨b, 0, rfl, fun k u hu => ?_⟩
  have hk : k < L.length * 5 := by rw [← flatN_length]; exact (List.getElem?_eq_some_iff.1 hu).1
  have h1 : k / 5 < L.length := by omega
  have h2 : k / 5 * 5 + k % 5 = k := by omega
  rw [← h2] at hu
  rw [flatN_at L _ _ h1 (by omega)] at hu
  have := h (k / 5) h1 (k % 5) u hu
  rw [h2] at this
  rw [Nat.zero_add]
  exact this
theorem rdG_fns {w : World} {b : Nat} {L : List FM} (h : ∀ k (hk : k < L.length) q u, (L[k]).cells[q]? = some u → w.cell? ⟨b, k * 5 + q, none⟩ = some u) : RdG w (some ⟨b, 0, none⟩) (flatF L) := fun h0 => by
  refine ⟨b, 0, rfl, fun k u hu => ?_⟩
  have hk : k < L.length * 5 := by rw [← flatF_length]; exact (List.getElem?_eq_some_iff.1 hu).1
  have h1 : k / 5 < L.length := by omega
  have h2 : k / 5 * 5 + k % 5 = k := by omega
  rw [← h2] at hu
  rw [flatF_at L _ _ h1 (by omega)] at hu
  have := h (k / 5) h1 (k % 5) u hu
  rw [h2] at this
  rw [Nat.zero_add]
  exact this
/-- A tree whose lines are nought. -/
theorem TreeW.toR {lo hi : Nat} {w : World} {A A' : Option Addr} {L : List NM} {M : List FM} {i j : Nat} (h : TreeW lo hi w A A' L M i j) (hi2 : i = L.length) (hj : j = M.length) : TreeR 0 w A A' ((L.map NM.d).map un) ((M.map FM.d).map unF) := by
  refine ⟨⟨L.map zN, by simp only [List.map_map]; rfl, ?_, ?_⟩, ⟨M.map zF, by simp only [List.map_map]; rfl, ?_, ?_⟩⟩
  · intro h0
    rw [flatN_length, List.length_map] at h0
    obtain ⟨b, e, _, _, _, h4⟩ := h.nodes (by omega)
    subst e
    refine rdG_nodes (fun k hk q u hu => ?_) (by rw [flatN_length, List.length_map]; exact h0)
    rw [List.getElem_map] at hu
    rw [List.length_map] at hk
    exact h4 k hk q u (by unfold atN; rw [if_pos (by omega)]; exact hu)
  · intro x hx
    obtain ⟨y, hy, rfl⟩ := List.mem_map.1 hx
    exact (h.ls y hy).1
  · intro h0
    rw [flatF_length, List.length_map] at h0
    obtain ⟨b, e, _, _, _, h4⟩ := h.fns (by omega)
    subst e
    refine rdG_fns (fun k hk q u hu => ?_) (by rw [flatF_length, List.length_map]; exact h0)
    rw [List.getElem_map] at hu
    rw [List.length_map] at hk
    exact h4 k hk q u (by unfold atF; rw [if_pos (by omega)]; exact hu)
  · intro x hx
    obtain ⟨y, hy, rfl⟩ := List.mem_map.1 hx
    exact (h.ps y hy).1

theorem own_row {w : World} {e : TypeId} {A : Option Addr} {n c : Nat} {xs : List Value} (h : w.ownsRow 0 e 5 (.slice A n c) n xs) (h0 : 0 < n) : ∃ b, A = some ⟨b, 0, none⟩ ∧ (Value.slice A n c).ownBlock = some b ∧ (∀ k, w.frozen? ⟨b, k, none⟩ = false) ∧ ∀ k u, xs[k]? = some u → w.cell? ⟨b, k, none⟩ = some u := by
  rcases h.2 with ⟨e1, h1⟩ | ⟨g, cap, cur, e1, _, hg, _⟩
  · omega
  · have e2 : A = some ⟨g, 0, none⟩ := by injection e1
    subst e2
    refine ⟨g, rfl, rfl, fun k => by simp [World.frozen?, hg], fun j u hu => ?_⟩
    have hj : j < n * 5 := by rw [← h.1]; exact (List.getElem?_eq_some_iff.1 hu).1
    exact (h.cellAt j hj).trans hu
/-- What a parser in memory and its functions are as a tree that may be written to. -/
theorem treeW_of {B lo : Nat} {w w' : World} {P C : Nat} {src : ByteArray} {T : List Tok} {R : Nat → Prop} {s : PS} {n m : Nat} {L : List FM} {A A' : Option Addr} {c c' : Nat} (hp : Par w P src T R s) (hf : FnsM B w R (.slice A' n c') n L) (h5 : w.cell? ⟨P, 5, none⟩ = some (.slice A m c)) (k : Keeps (fun b => b = C) w w') (hR : ¬ R C) (hC : C < B) (hlo : ∀ b, R b → lo ≤ b) (hB : lo ≤ B) :
    ∃ Ln, Ln.map NM.d = s.nd ∧ TreeW lo w'.heap.size w' A A' Ln L 0 0 := by
  obtain ⟨A0, cT, v, M, h⟩ := hp
  have e := h.c5.symm.trans h5
  injection e with e
  subst e
  have hm : m = M.length := by
    rcases h.own.2 with ⟨e1, h1⟩ | ⟨g, cap, cur, e1, _⟩
    · injection e1 with _ e2 _
      omega
    · injection e1
  subst hm
  have hsz := k.size
  have isA : ∀ b o, A = some ⟨b, o, none⟩ → (Value.slice A M.length c).ownBlock = some b := fun b o e => by rw [e]; rfl
  have isF : ∀ b o, A' = some ⟨b, o, none⟩ → (Value.slice A' n c').ownBlock = some b := fun b o e => by rw [e]; rfl
  have nC : ∀ b, R b → ¬ b = C := fun b hb e => hR (by rw [← e]; exact hb)
  have nC2 : ∀ b, B ≤ b → ¬ b = C := fun b hb e => by omega
  refine ⟨M, h.nd, ?_⟩
  refine { nodes := fun h0 => ?_, fns := fun h0 => ?_, sep := fun b b' o o' e e' hbb => ?_, ls := fun x hx => ?_, ps := fun x hx => ?_ }
  · obtain ⟨b, e1, e2, e3, e4⟩ := own_row h.own h0
    have hb := (h.vb b e2).1
    have hbl := h.lt b hb
    refine ⟨b, e1, hlo b hb, by omega, fun q => (k.frozen hbl (nC b hb)).trans (e3 q), fun q hq r u hu => (k.cell hbl (nC b hb)).trans (e4 _ u ?_)⟩
    rw [flatN_at M q r hq (NM.lt5 hu)]
    unfold atN at hu
    rw [if_neg (Nat.not_lt_zero _)] at hu
    exact hu
  · have hn := hf.hn
    obtain ⟨b, e1, e2, e3, e4⟩ := own_row hf.own (by omega)
    have hb := (hf.blk b e2).2
    have hbl := own_ltk hf.own e2
    refine ⟨b, e1, by omega, by omega, fun q => (k.frozen hbl (nC2 b hb)).trans (e3 q), fun q hq r u hu => (k.cell hbl (nC2 b hb)).trans (e4 _ u ?_)⟩
    rw [flatF_at L q r hq (FM.lt5 hu)]
    unfold atF at hu
    rw [if_neg (Nat.not_lt_zero _)] at hu
    exact hu
  · exact (hf.blk b' (isF _ _ e')).1 (hbb ▸ (h.vb b (isA _ _ e)).1)
  · refine ⟨(h.ls x hx).1.keep k (fun h0 b off e => nC b ((h.ls x hx).2 h0 b off e).1), fun h0 b off e => ?_⟩
    obtain ⟨g1, g2, g3⟩ := (h.ls x hx).2 h0 b off e
    have g4 := h.lt b g1
    exact ⟨hlo b g1, by omega, fun o eo => g3 b (isA _ _ eo) rfl, fun o eo => (hf.blk b (isF _ _ eo)).1 g1⟩
  · refine ⟨(hf.ps x hx).1.keep k (fun h0 b off e => nC2 b ((hf.ps x hx).2 h0 b off e).2.1), fun h0 b off e => ?_⟩
    obtain ⟨g1, g2, g3⟩ := (hf.ps x hx).2 h0 b off e
    have g4 := (hf.ps x hx).1.lt h0 e
    exact ⟨by omega, by omega, fun o eo => g1 (h.vb b (isA _ _ eo)).1, fun o eo => g3 (isF _ _ eo)⟩

/-- What a parser tells: a tree of its own. -/
def TreeX (lo : Nat) (res : (Nat × Nat) ⊕ (List Nd × List Fnc)) (e : Ending) (w' : World) : Prop :=
  match res with
  | .inl pe => e = .returned (.tuple #[.agg #[.slice none 0 0, .slice none 0 0], .int .i64 (pe.1 : Int), .int .i64 (pe.2 : Int)])
  | .inr t => ∃ A c A' c', e = .returned (.tuple #[.agg #[.slice A t.1.length c, .slice A' t.2.length c'], .int .i64 0, .int .i64 0]) ∧ ∃ L M, L.map NM.d = t.1 ∧ M.map FM.d = t.2 ∧ TreeW lo w'.heap.size w' A A' L M 0 0
theorem treeX_inl {B p er : Nat} {res : (Nat × Nat) ⊕ (List Nd × List Fnc)} (h : res = .inl (p, er)) (w' : World) : TreeX B res (.returned (.tuple #[.agg #[.slice none 0 0, .slice none 0 0], .int .i64 (p : Int), .int .i64 (er : Int)])) w' := by
  rw [h]
  exact rfl
theorem treeX_inr {B : Nat} {res : (Nat × Nat) ⊕ (List Nd × List Fnc)} {nd : List Nd} {fs : List Fnc} (h : res = .inr (nd, fs)) {w' : World} {A A' : Option Addr} {c c' m n : Nat} (hm : m = nd.length) (hn : n = fs.length) (ht : ∃ L M, L.map NM.d = nd ∧ M.map FM.d = fs ∧ TreeW B w'.heap.size w' A A' L M 0 0) : TreeX B res (.returned (.tuple #[.agg #[.slice A m c, .slice A' n c'], .int .i64 0, .int .i64 0])) w' := by
  rw [h, hm, hn]
  exact ⟨A, c, A', c', rfl, ht⟩
end Go.Proofs.YtgelggdgbmldiaaGreatDoor

namespace Go.Proofs.YtgelggdgbmldiaaGreatDoor
open Go Go.RowKit Go.Shelf
set_option linter.unusedVariables false
set_option linter.unusedSimpArgs false

set_option maxRecDepth 100000 in
set_option maxHeartbeats 16000000 in
theorem pall_okx (s : ByteArray) (hs : s.size ≤ 600) (N : Nat) (hN : N ≤ 100000) (res : (Nat × Nat) ⊕ (List Nd × List Fnc)) (hnone : (lexL s.data.toList 0).2 = none) (h : (fnsR s.data.toList (lexL s.data.toList 0).1 N N [] ⟨0, 0, 0, [], 0⟩).map (fun p => treeP p.1 p.2) = some res) (w : World) (he : ErrW w)
    (FN : ∀ P, FnC P s (lexL s.data.toList 0).1 (functionM s.data.toList (lexL s.data.toList 0).1 N)) :
    Calls Tryz.prog 8 #[.string s] w fun e w' => TreeX w.heap.size res e w' ∧ Keeps (fun _ => False) w w' := by
  obtain ⟨T, hT⟩ : ∃ T, T = (lexL s.data.toList 0).1 := ⟨_, rfl⟩
  have hok : TokOK T := by rw [hT]; exact tokOK_lex _ (by rw [len_size]; omega) hnone
  have FN : ∀ P, FnC P s T (functionM s.data.toList T N) := by rw [hT]; exact FN
  obtain ⟨F, sF, hfn, hres⟩ : ∃ F sF, fnsR s.data.toList T N N [] ⟨0, 0, 0, [], 0⟩ = some (F, sF) ∧ treeP F sF = res := by
    rw [← hT] at h
    cases hx : fnsR s.data.toList T N N [] ⟨0, 0, 0, [], 0⟩ with
    | none => rw [hx] at h; cases h
    | some p => rw [hx] at h; exact ⟨p.1, p.2, rfl, Option.some.inj h⟩
  have LC : Hid (∀ w1, Keeps (fun _ => False) w w1 → Calls Tryz.prog 14 #[.string s] w1 fun e w' => ∃ A c, e = .returned (.tuple #[.slice A T.length c, .int .i64 0, .int .i64 0]) ∧ NewT T w1 A c w' ∧ Keeps (fun _ => False) w1 w') := Lib.hid fun w1 k => by
    refine (all_any s (by omega) w1 (he.keep k)).mono fun e w' ⟨h1, hk⟩ => ?_
    rw [if_neg (by rw [len_size]; omega), hnone] at h1
    obtain ⟨A, c, h2, h3⟩ := h1
    rw [hT]
    exact ⟨A, c, h2, h3, hk⟩
  have HOK := Lib.hid hok
  have HR := Lib.hid hres
  have HA := Lib.hid hfn
  have HE := Lib.hid he
  obtain ⟨tl, htl⟩ : ∃ tl, tl = T.length := ⟨_, rfl⟩
  have HTL := Lib.hid htl
  rw [← htl] at LC
  have hsz : Hid (s.size ≤ 1000) := Lib.hid (by omega)
  obtain ⟨io, hio, hf0, hf1, hf2⟩ := info_parts info_func
  clear hok hres hfn he h hT hnone htl hs
  go_enter Tryz.func8, Tryz.ntmps8
  go_upto_region 1 with fail
  have ka := Keeps.one w (.cells #[.slice none 0 0, .slice none 0 0] 27)
  obtain ⟨C, hC⟩ : ∃ C, C = w.heap.size := ⟨_, rfl⟩
  obtain ⟨w1, hw⟩ : ∃ w1, w1 = w.alloc (.cells #[.slice none 0 0, .slice none 0 0] 27) := ⟨_, rfl⟩
  have z : Loc w1 (fun _ => False) C [.slice none 0 0, .slice none 0 0] := by rw [hw, hC]; exact Loc.new (fun h => h) [.slice none 0 0, .slice none 0 0] 27
  rw [← hC]
  rw [← hw] at ka ⊢
  have Z := Lib.hid z
  have KA := Lib.hid ka
  have HC := Lib.hid hC
  have CC := Lib.hid (LC.out w1 ka)
  clear z ka hC hw LC
  go_wp2_with fail
  refine CC.out.mono ?_
  rintro e w2 ⟨A, c, rfl, ⟨ho, hb⟩, k2⟩
  have Z2 := Lib.hid (Z.out.keeps k2)
  have HO := Lib.hid ho
  have HBT := Lib.hid hb
  have KA2 := Lib.hid (KA.out.trans k2 (fun _ _ h => h))
  have HS1 := Lib.hid Z.out.lt
  clear ho hb k2 CC Z
  go_upto_region 5 with fail
  obtain ⟨P, hP⟩ : ∃ P, P = w2.heap.size := ⟨_, rfl⟩
  obtain ⟨wP, hw⟩ : ∃ wP, wP = w2.alloc (.cells #[.string s, .slice A tl c, .int .i64 0, .int .i64 0, .int .i64 0, .slice none 0 0, .int .i64 0] 49) := ⟨_, rfl⟩
  have kp := Keeps.one w2 (.cells #[.string s, .slice A tl c, .int .i64 0, .int .i64 0, .int .i64 0, .slice none 0 0, .int .i64 0] 49)
  rw [← hP]
  rw [← hw] at kp ⊢
  obtain ⟨R, hR⟩ : ∃ R : Nat → Prop, R = fun b => b = P ∨ ∃ off, A = some ⟨b, off, none⟩ := ⟨_, rfl⟩
  have HW2 : Hid (w.heap.size < w2.heap.size ∧ C = w.heap.size ∧ P = w2.heap.size) := Lib.hid ⟨by have h1 := HS1.out; have h2 := HC.out; have h3 := Z2.out.lt; omega, HC.out, hP⟩
  have htb : Hid (∀ b off, A = some ⟨b, off, none⟩ → w.heap.size < b ∧ b < w2.heap.size) := Lib.hid fun b off e => by
    have e1 : (Value.slice A T.length c).ownBlock = some b := by rw [e]; rfl
    have h1 := HBT.out b e1
    have h2 := own_ltk HO.out e1
    have h3 := HS1.out
    have h4 := HC.out
    omega
  have HCR : Hid (¬ R C) := Lib.hid fun h => by
    have h2 := HW2.out
    rw [hR] at h
    rcases h with h | ⟨off, e⟩
    · omega
    · have := htb.out C off e
      omega
  have HRB : Hid (∀ b, R b → w.heap.size ≤ b) := Lib.hid fun b hb => by
    have h2 := HW2.out
    rw [hR] at hb
    rcases hb with h | ⟨off, e⟩
    · omega
    · have := htb.out b off e
      omega
  have HXC0 : Hid (Loc wP R C [.slice none 0 0, .slice none 0 0]) := Lib.hid ⟨Nat.lt_of_lt_of_le Z2.out.lt kp.size, HCR.out, fun k u hu => (kp.cell Z2.out.lt (fun h => h)).trans (Z2.out.cells k u hu), fun k => (kp.frozen Z2.out.lt (fun h => h)).trans (Z2.out.fz k)⟩
  have KW := Lib.hid (KA2.out.trans kp (fun _ _ h => h))
  have HP0 : Hid (Par wP P s T R ⟨0, 0, 0, [], 0⟩) := Lib.hid (by
    have zz := Loc.new (w := w2) (R := fun _ => False) (fun h => h) [.string s, .slice A tl c, .int .i64 0, .int .i64 0, .int .i64 0, .slice none 0 0, .int .i64 0] 49
    have zz : Loc wP (fun _ => False) P [.string s, .slice A tl c, .int .i64 0, .int .i64 0, .int .i64 0, .slice none 0 0, .int .i64 0] := by rw [hw, hP]; exact zz
    have hne := HOK.out.ne
    have hlt : ∀ b, R b → b < wP.heap.size := fun b hb => by
      rw [hR] at hb
      rcases hb with h | ⟨off, e⟩
      · rw [h]; exact zz.lt
      · exact Nat.lt_of_lt_of_le (htb.out b off e).2 kp.size
    have her : ErrP P R wP := by
      obtain ⟨g, tp, p, h1, h2, h3⟩ := HE.out
      refine ⟨w.heap.size, by have := HW2.out; omega, HRB.out, g, tp, p, h1, h2, Nat.lt_of_lt_of_le h2 KW.out.size, ?_⟩
      unfold World.var? at h3 ⊢
      rw [h1] at h3 ⊢
      simp only [Option.bind_some] at h3 ⊢
      rw [KW.out.block g h2 (fun h => h)]
      exact h3
    refine ⟨A, c, .slice none 0 0, [], ?_⟩
    exact { c0 := zz.cells 0 _ rfl, c1 := by rw [← HTL.out]; exact zz.cells 1 _ rfl, c2 := zz.cells 2 _ rfl, c3 := zz.cells 3 _ rfl, c4 := zz.cells 4 _ rfl, c5 := zz.cells 5 _ rfl, c6 := zz.cells 6 _ rfl, fz := zz.fz, lt := hlt, rp := by rw [hR]; exact .inl rfl, tok := (own_rdT HO.out rfl).keep kp, tb := fun b off e => ⟨by rw [hR]; exact .inr ⟨off, e⟩, by have h1 := htb.out b off e; have h2 := HW2.out; omega, fun g hg => by simp [Value.ownBlock] at hg⟩, own := World.ownsRow_nil _ _ _ _, vb := fun g hg => by simp [Value.ownBlock] at hg, nd := rfl, ls := fun x hx => (by cases hx), hi := hne, ok := HOK.out, er := her })
  have HF0 := Lib.hid (Fr.refl R wP)
  have HQ0 : Hid (FnsM wP.heap.size wP R (.slice none 0 0) 0 []) := Lib.hid ⟨rfl, World.ownsRow_nil _ _ _ _, fun g hg => by simp [Value.ownBlock] at hg, fun x hx => by cases hx⟩
  have HKE : Hid (∀ (Rk : Nat → Prop) wk, Fr R wP Rk wk → ∀ v0 v1, Keeps (fun _ => False) w ((wk.setCell ⟨C, 0, none⟩ v0).setCell ⟨C, 1, none⟩ v1)) := Lib.hid fun Rk wk hf v0 v1 => by
    have k := (KW.out.mono (T := fun b => w.heap.size ≤ b) (fun _ _ h => h.elim)).trans hf.1 (fun b _ hb => HRB.out b hb)
    have hc : w.heap.size ≤ C := by rw [HC.out]; exact Nat.le_refl _
    exact kback ((k.setCell (p := ⟨C, 0, none⟩) (fun _ => hc) v0).setCell (p := ⟨C, 1, none⟩) (fun _ => hc) v1) rfl
  have HCP : Hid (C < wP.heap.size) := Lib.hid HXC0.out.lt
  have HPP : Hid (P < wP.heap.size) := Lib.hid HP0.out.lo
  have HWP : Hid (w.heap.size ≤ wP.heap.size) := Lib.hid KW.out.size
  clear kp hw hP hR Z2 HO HBT KA KA2 HS1 htb HCR KW HC HW2 HE HTL HOK
  go_wp2_with fail
  go_loopg [9] N (fun k s9 wr => ∃ (L : List FM) (A9 : Option Addr) (n c9 : Nat) (sk : PS) (Rk : Nat → Prop), s9 = .slice A9 n c9 ∧ n + k ≤ N ∧ fnsR s.data.toList T N k (L.map FM.d) sk = some (F, sF) ∧ Par wr P s T Rk sk ∧ Fr R wP Rk wr ∧ Loc wr Rk C [.slice none 0 0, .slice none 0 0] ∧ FnsM wP.heap.size wr Rk (.slice A9 n c9) n L)
  case atStart => exact ⟨[], none, 0, 0, _, _, rfl, by omega, HA.out, HP0.out, HF0.out, HXC0.out, HQ0.out⟩
  case round =>
    obtain ⟨L, A9, n, c9, sk, Rk, rfl, hnk, hm, hp, hf, hxc, hq⟩ := hrel
    clear HP0 HF0 HXC0 HQ0 HA
    cases gk with
    | zero =>
      have h0 : (none : Option (List Fnc × PS)) = some (F, sF) := hm
      cases h0
    | succ k =>
      unfold fnsR at hm
      have c4 := hp.see.c4
      obtain ⟨b, hb, hm⟩ := ask_out hm
      obtain ⟨tk, htk⟩ : ∃ tk, tk = tokA T sk := ⟨_, rfl⟩
      rw [← htk] at hb
      have NC := Lib.hid (now_at hp htk)
      have HP0 := Lib.hid hp
      have HF0 := Lib.hid hf
      have HXC0 := Lib.hid hxc
      have HQ0 := Lib.hid hq
      have HA := Lib.hid hm
      have HNK := Lib.hid hnk
      have hn2 : n ≤ 100000 := by omega
      clear hp hf hxc hq hm hnk htk
      by_cases he : sk.er = 0
      · skip
        rw [he] at c4
        rw [decide_eq_true he, Bool.true_and] at hb
        have HER := Lib.hid he
        clear he
        have F0 : ∀ w, Sem.run Tryz.prog (Instr.field 38 (.agg #[.int .i64 (tk.k : Int), .string (ofL tk.x), .int .i64 (tk.p : Int)]) 0) w = .ok (.int .i64 (tk.k : Int)) w := fun w => tok_field0 _ _ _ w
        by_cases hk : tk.k = 0
        · skip
          obtain rfl : b = false := by rw [hb, decide_eq_true hk]; rfl
          have hkn : ((tk.k : Int) != 0) = false := by simp; omega
          clear hk hb
          go_wp2_with fail
          refine NC.out.mono ?_
          rintro e w1 ⟨rfl, k1⟩
          have HP1 := Lib.hid (HP0.out.keep k1)
          have HF1 := Lib.hid (HF0.out.keeps k1)
          have HXC1 := Lib.hid (HXC0.out.keeps k1)
          have HQ1 := Lib.hid (HQ0.out.keeps k1)
          clear HP0 HF0 HXC0 HQ0 NC k1 
          go_upto_region 8 with fail
          clear hkn F0 c4
          have h := HA.out
          rw [if_neg (by decide)] at h
          obtain ⟨q1, q2⟩ := pure_end h
          subst q1
          subst q2
          clear HA h
          obtain ⟨A5, c5, h5, htr⟩ := tree_of HP1.out HQ1.out
          have HTR := Lib.hid htr
          have HC5 := Lib.hid h5
          have HLN : Hid ((L.map FM.d).length = n) := Lib.hid (by rw [List.length_map]; exact HQ1.out.hn.symm)
          obtain ⟨m, hm⟩ : ∃ m, m = sF.nd.length := ⟨_, rfl⟩
          rw [← hm] at h5 HC5
          have HM := Lib.hid hm
          have hdn : ((0 : Int) != 0) = false := rfl
          clear htr hm
          obtain ⟨bg, hbg⟩ : ∃ bg, bg = (decide (300 < m) || decide (6 < n)) := ⟨_, rfl⟩
          have HBG := Lib.hid hbg
          have c4 := HP1.out.see.c4
          rw [HER.out] at c4
          have htp : treeP (L.map FM.d) sF = if bg || (L.map FM.d).any (fun f => decide (3 < f.ps.length)) then .inl (0, 4) else .inr (sF.nd, L.map FM.d) := by
            unfold treeP
            rw [if_pos HER.out, HLN.out, ← HM.out, ← HBG.out]
          have HTP : Hid (res = if bg || (L.map FM.d).any (fun f => decide (3 < f.ps.length)) then .inl (0, 4) else .inr (sF.nd, L.map FM.d)) := Lib.hid (by rw [← HR.out]; exact htp)
          clear htp
          by_cases h300 : 300 < m
          · skip
            have h3I : (300 : Int) < (m : Int) := by omega
            have h3d : decide ((300 : Int) < (m : Int)) = true := decide_eq_true h3I
            have HB4 : Hid (bg = true) := Lib.hid (by rw [HBG.out, decide_eq_true h300]; rfl)
            clear hbg h300
            have zC0 := HXC1.out.cells 0 _ rfl
            have zC1 := HXC1.out.cells 1 _ rfl
            have gC0 := HXC1.out.fz 0
            have gC1 := HXC1.out.fz 1
            go_wp2_with fail
            (try simp only [Exit.inBlock, Exit.then])
            refine bodyPost_ret (v := .tuple #[.agg #[.slice none 0 0, .slice none 0 0], .int .i64 0, .int .i64 4]) ?_ rfl ?_
            · rw [results_cell_tmp3 rfl]
              go_simp
            clear zC0 zC1 gC0 gC1
            exact ⟨treeX_inl (p := 0) (er := 4) (by rw [HTP.out, HB4.out]; rfl) _, HKE.out _ _ HF1.out _ _⟩
          · skip
            have h3I : ¬ (300 : Int) < (m : Int) := by omega
            have h3d : decide ((300 : Int) < (m : Int)) = false := decide_eq_false h3I
            by_cases h6 : 6 < n
            · skip
              have h6I : (6 : Int) < (n : Int) := by omega
              have h6d : decide ((6 : Int) < (n : Int)) = true := decide_eq_true h6I
              have HB4 : Hid (bg = true) := Lib.hid (by rw [HBG.out, decide_eq_true h6]; simp)
              clear hbg h6 h300
              have zC0 := HXC1.out.cells 0 _ rfl
              have zC1 := HXC1.out.cells 1 _ rfl
              have gC0 := HXC1.out.fz 0
              have gC1 := HXC1.out.fz 1
              go_wp2_with fail
              (try simp only [Exit.inBlock, Exit.then])
              refine bodyPost_ret (v := .tuple #[.agg #[.slice none 0 0, .slice none 0 0], .int .i64 0, .int .i64 4]) ?_ rfl ?_
              · rw [results_cell_tmp3 rfl]
                go_simp
              clear zC0 zC1 gC0 gC1
              exact ⟨treeX_inl (p := 0) (er := 4) (by rw [HTP.out, HB4.out]; rfl) _, HKE.out _ _ HF1.out _ _⟩
            · skip
              have h6I : ¬ (6 : Int) < (n : Int) := by omega
              have h6d : decide ((6 : Int) < (n : Int)) = false := decide_eq_false h6I
              have HB0 : Hid (bg = false) := Lib.hid (by rw [HBG.out, decide_eq_false h300, decide_eq_false h6]; rfl)
              clear hbg h6 h300
              go_wp2_with fail
              go_loopg [11, 64] n (fun k s11 s64 wr => ∃ i : Nat, s64 = .int .i64 i ∧ i + k = n ∧ (∀ j (hj : j < L.length), j < i → ¬ 3 < (L[j]).d.ps.length) ∧ Keeps (fun _ => False) w1 wr)
              case atStart => exact ⟨0, rfl, by omega, fun j _ hj => by omega, Keeps.refl _ _⟩
              case round =>
                obtain ⟨i, rfl, hik, hsm, kr⟩ := hrel
                have KR := Lib.hid kr
                have HSM := Lib.hid hsm
                have HQR := Lib.hid (HQ1.out.keeps kr)
                have zC0 := (kr.cell HXC1.out.lt (fun h => h)).trans (HXC1.out.cells 0 _ rfl)
                have zC1 := (kr.cell HXC1.out.lt (fun h => h)).trans (HXC1.out.cells 1 _ rfl)
                have gC0 := (kr.frozen HXC1.out.lt (fun h => h)).trans (HXC1.out.fz 0)
                have gC1 := (kr.frozen HXC1.out.lt (fun h => h)).trans (HXC1.out.fz 1)
                have HKF : Hid (∀ wq, Keeps (fun _ => False) wr wq → ∀ v0 v1, Keeps (fun _ => False) w ((wq.setCell ⟨C, 0, none⟩ v0).setCell ⟨C, 1, none⟩ v1)) := Lib.hid fun wq kq v0 v1 => HKE.out _ _ (HF1.out.keeps (KR.out.trans kq (fun _ _ h => h))) v0 v1
                have HTRR := Lib.hid (HTR.out.keep kr)
                have h5 := (kr.cell HP1.out.lo (fun h => h)).trans HC5.out
                clear kr hsm
                by_cases hin : i < n
                · have hinI : (i : Int) < (n : Int) := by omega
                  have hd2 : decide ((i : Int) < (n : Int)) = true := decide_eq_true hinI
                  have hi0 : (0 : Int) ≤ (i : Int) := by omega
                  have hL : i < L.length := by rw [← HQR.out.hn]; exact hin
                  obtain ⟨bb, off, rfl, hc⟩ := own_rdG HQR.out.own (by rw [flatF_length]; omega)
                  have hcc : ∀ j u, (L[i]).cells[j]? = some u → j < 5 → wr.cell? ⟨bb, off + (i * 5 + j), none⟩ = some u := fun j u hu hj => hc (i * 5 + j) u (by rw [flatF_at L i j hL hj]; exact hu)
                  have e0 := hcc 0 _ rfl (by omega)
                  have e1 := hcc 1 _ rfl (by omega)
                  have e2 := hcc 2 _ rfl (by omega)
                  have e3 := hcc 3 _ rfl (by omega)
                  have e4 := hcc 4 _ rfl (by omega)
                  rw [show off + (i * 5 + 0) = off + i * 5 by omega] at e0
                  rw [show off + (i * 5 + 1) = off + i * 5 + 1 by omega] at e1
                  rw [show off + (i * 5 + 2) = off + i * 5 + 2 by omega] at e2
                  rw [show off + (i * 5 + 3) = off + i * 5 + 3 by omega] at e3
                  rw [show off + (i * 5 + 4) = off + i * 5 + 4 by omega] at e4
                  obtain ⟨mp, hmp⟩ : ∃ mp, mp = (L[i]).d.ps.length := ⟨_, rfl⟩
                  rw [← hmp] at e2
                  have HMP := Lib.hid hmp
                  have HL := Lib.hid hL
                  have HIN := Lib.hid hin
                  have HIK := Lib.hid hik
                  have hi1 : IntKind.i64.wrap ((i : Int) + 1) = (i : Int) + 1 := IntWalk.i64_in _ (by omega)
                  generalize ofL (L[i]).d.s = fx at e0
                  generalize (L[i]).d.ln = fl at e1
                  generalize (L[i]).a = fa at e2
                  generalize (L[i]).c = fc at e2
                  generalize (L[i]).d.ret = fr at e3
                  generalize (L[i]).d.body = fb at e4
                  clear hcc hc hmp hik
                  by_cases h3 : 3 < mp
                  · have h3p : (3 : Int) < (mp : Int) := by omega
                    have h3q : decide ((3 : Int) < (mp : Int)) = true := decide_eq_true h3p
                    have HB4 : Hid ((bg || (L.map FM.d).any (fun f => decide (3 < f.ps.length))) = true) := Lib.hid (by
                      rw [Bool.or_eq_true, List.any_eq_true]
                      exact .inr ⟨(L[i]'HL.out).d, List.mem_map.2 ⟨_, List.getElem_mem HL.out, rfl⟩, by rw [← HMP.out]; exact decide_eq_true h3⟩)
                    clear h3
                    have d0 := ((Keeps.one wr (.cells #[.string fx, .int .i64 fl, .slice fa mp fc, .int .i64 fr, .int .i64 fb] 45)).cell (cell_ltk zC0) (fun h => h)).trans zC0
                    have d1 := ((Keeps.one wr (.cells #[.string fx, .int .i64 fl, .slice fa mp fc, .int .i64 fr, .int .i64 fb] 45)).cell (cell_ltk zC1) (fun h => h)).trans zC1
                    have g0 := ((Keeps.one wr (.cells #[.string fx, .int .i64 fl, .slice fa mp fc, .int .i64 fr, .int .i64 fb] 45)).frozen (cell_ltk zC0) (fun h => h)).trans gC0
                    have g1 := ((Keeps.one wr (.cells #[.string fx, .int .i64 fl, .slice fa mp fc, .int .i64 fr, .int .i64 fb] 45)).frozen (cell_ltk zC1) (fun h => h)).trans gC1
                    go_wp2_with fail
                    (try simp only [Exit.inBlock, Exit.then])
                    refine bodyPost_ret (v := .tuple #[.agg #[.slice none 0 0, .slice none 0 0], .int .i64 0, .int .i64 4]) ?_ rfl ?_
                    · rw [results_cell_tmp3 rfl]
                      go_simp
                    exact ⟨treeX_inl (p := 0) (er := 4) (by rw [HTP.out, HB4.out]; rfl) _, HKF.out _ (Keeps.one wr _) _ _⟩
                  · have h3p : ¬ (3 : Int) < (mp : Int) := by omega
                    have h3q : decide ((3 : Int) < (mp : Int)) = false := decide_eq_false h3p
                    have H3 := Lib.hid h3
                    clear h3
                    go_wp2_with fail
                    go_roundg (gk - 1)
                    case measure => go_light; have h1 := HIK.out; have h2 := HIN.out; omega
                    case rel => exact ⟨i + 1, by go_num, by have h1 := HIK.out; have h2 := HIN.out; go_light; omega, small_next HSM.out HL.out (by rw [← HMP.out]; exact H3.out), KR.out.trans (Keeps.one wr _) (fun _ _ h => h)⟩
                · obtain rfl : i = n := by omega
                  have hinI : ¬ (i : Int) < (i : Int) := by omega
                  have hd2 : decide ((i : Int) < (i : Int)) = false := decide_eq_false hinI
                  have HAny : Hid ((bg || (L.map FM.d).any (fun f => decide (3 < f.ps.length))) = false) := Lib.hid (by
                    rw [HB0.out, Bool.false_or, List.any_eq_false]
                    intro f hf
                    obtain ⟨x, hx, rfl⟩ := List.mem_map.1 hf
                    obtain ⟨j, hj, rfl⟩ := List.getElem_of_mem hx
                    have := HSM.out j hj (by rw [← HQR.out.hn] at hj; exact hj)
                    simpa using this)
                  clear hin hik
                  go_wp2_with fail
                  (try simp only [Exit.inBlock, Exit.then])
                  refine bodyPost_ret (v := .tuple #[.agg #[.slice A5 m c5, .slice A9 i c9], .int .i64 0, .int .i64 0]) ?_ rfl ?_
                  · rw [results_cell_tmp3 rfl]
                    go_simp
                  have kz := HKF.out _ (Keeps.refl _ _) (.slice A5 m c5) (.slice A9 i c9)
                  have kz2 : Keeps (fun b => b = C) w1 ((wr.setCell ⟨C, 0, none⟩ (.slice A5 m c5)).setCell ⟨C, 1, none⟩ (.slice A9 i c9)) := ((KR.out.mono (T := fun b => b = C) (fun _ _ h => h.elim)).setCell (p := ⟨C, 0, none⟩) (fun _ => rfl) _).setCell (p := ⟨C, 1, none⟩) (fun _ => rfl) _
                  obtain ⟨Ln, hln, htr6⟩ := treeW_of HP1.out HQ1.out HC5.out kz2 HXC1.out.out HCP.out (lo := w.heap.size) (fun b hb => by
                    by_cases h1 : b < wP.heap.size
                    · exact HRB.out b (HF1.out.2 b h1 hb)
                    · have h2 := HWP.out; omega) HWP.out
                  exact ⟨treeX_inr (by rw [HTP.out, HAny.out]; rfl) HM.out HLN.out.symm ⟨Ln, L, hln, rfl, htr6⟩, kz⟩
        · skip
          obtain rfl : b = true := by rw [hb, decide_eq_false hk]; rfl
          have hkn : ((tk.k : Int) != 0) = true := by simp; omega
          clear hk hb
          go_wp2_with fail
          refine NC.out.mono ?_
          rintro e w2 ⟨rfl, k1⟩
          have HP1 := Lib.hid (HP0.out.keep k1)
          have HF1 := Lib.hid (HF0.out.keeps k1)
          have HXC1 := Lib.hid (HXC0.out.keeps k1)
          have HQ1 := Lib.hid (HQ0.out.keeps k1)
          clear HP0 HF0 HXC0 HQ0 NC k1 
          have h := HA.out
          first | rw [if_pos rfl] at h | rw [if_pos trivial] at h
          obtain ⟨fa, s2, hm, h⟩ := bind_out h
          replace HA := Lib.hid h
          have HLT : Hid (∀ g, (Value.slice A9 n c9).ownBlock = some g → g < w2.heap.size) := Lib.hid (fun g hg => own_ltk HQ1.out.own hg)
          have HSZ : Hid (wP.heap.size ≤ w2.heap.size) := Lib.hid HF1.out.1.size
          have BC := Lib.hid (FN P _ _ _ _ _ hm HP1.out)
          clear h hm
          go_wp2_with fail
          refine BC.out.mono ?_
          rintro e w3 ⟨Af, cf, rfl, hof, R4, hp, hf, hbf⟩
          have HP2 := Lib.hid hp
          have HF2 := Lib.hid (HF1.out.trans hf)
          have HXC2 := Lib.hid (HXC1.out.keep hf)
          have HQ2 := Lib.hid (HQ1.out.keep hf)
          clear HP1 HF1 HXC1 HQ1 hp hf BC c4 hkn F0
          have HOF := Lib.hid hof
          have HBF := Lib.hid hbf
          obtain ⟨mf, hmf⟩ : ∃ mf, mf = fa.ps.length := ⟨_, rfl⟩
          rw [← hmf]
          have HMF := Lib.hid hmf
          obtain ⟨x, hx⟩ : ∃ x : FM, x = ⟨fa, Af, cf⟩ := ⟨_, rfl⟩
          have HXX := Lib.hid hx
          have HXE : Hid (x.cells = [.string (ofL fa.s), .int .i64 fa.ln, .slice Af mf cf, .int .i64 fa.ret, .int .i64 fa.body]) := Lib.hid (by rw [hx, hmf]; rfl)
          clear hof hbf hmf hx
          go_wp2_with (at_builtin; refine wpList_append_atk rfl (.tmp 37) (.tmp 39) 25 rfl 0 45 io _ 5 64 Tryz.underlying25 hio hf0 hf1 hf2 (by rfl) (by omega) (.slice A9 n c9) n (flatF L) (by rfl) (ownsRow_keep HQ2.out.own (fun g hg => (Keeps.one w3 _).block g (own_ltk HQ2.out.own hg) (fun h => h))) ⟨w3.heap.size, 0, none⟩ 1 1 x.cells (by rfl) (by rw [HXE.out]; rfl) (by have e := HXE.out; have hh := newsG (w := w3) x.cells 45; rw [e] at hh ⊢; exact hh) (FM.one x) (by omega) (by omega) (Nat.zero_le _) ?_; intro v5 w5 h5 g5 b5; obtain ⟨A5, c5, rfl⟩ := own_formk h5; have hsz2 := HF2.out.1.size; have hq := HQ2.out.more HP2.out.lt hsz2 (Keeps.one w3 (.cells #[.string (ofL fa.s), .int .i64 fa.ln, .slice Af mf cf, .int .i64 fa.ret, .int .i64 fa.body] 45)) x (by rw [HXX.out]; exact (own_rdG HOF.out).keep (Keeps.one w3 _) (fun _ _ _ _ h => h)) (by rw [HXX.out]; exact fn_out HOF.out HBF.out HLT.out HSZ.out) h5 g5 b5; have hmm := own_more HP2.out HF2.out HPP.out HQ2.out.blk (Keeps.one w3 (.cells #[.string (ofL fa.s), .int .i64 fa.ln, .slice Af mf cf, .int .i64 fa.ret, .int .i64 fa.body] 45)) g5 b5; have HP3 := Lib.hid hmm.1; have HF3 := Lib.hid hmm.2.1; have HQ3 := Lib.hid hq; have HXC3 := Lib.hid (HXC2.out.keepsR hmm.2.2.2 (fun hv => absurd (HQ2.out.blk _ hv).2 (Nat.not_le.2 HCP.out))); clear hmm h5 g5 b5 hq hsz2 HP2 HF2 HQ2 HXC2)
          go_roundg k
          case measure => omega
          case rel => exact ⟨L ++ [x], _, n + 1, _, _, _, rfl, by have := HNK.out; omega, by rw [List.map_append, show [x].map FM.d = [fa] by rw [HXX.out]; rfl]; exact HA.out, HP3.out, HF3.out, HXC3.out, HQ3.out⟩
      · skip
        have HER := Lib.hid he
        have heI : ¬ (sk.er : Int) = 0 := by omega
        have hd : ((sk.er : Int) == 0) = false := by simpa using heI
        obtain rfl : b = false := by rw [hb, decide_eq_false he]; rfl
        clear hb he NC
        have h := HA.out
        rw [if_neg (by decide)] at h
        obtain ⟨q1, q2⟩ := pure_end h
        subst q1
        subst q2
        clear HA h
        have c3 := HP0.out.see.c3
        have HTP : Hid (res = .inl (sF.pl, sF.er)) := Lib.hid (by rw [← HR.out]; unfold treeP; rw [if_neg HER.out])
        have hdn : ((sF.er : Int) != 0) = true := by have := HER.out; simp; omega
        generalize hpl : (sF.pl : Int) = pl at c3
        have HPL := Lib.hid hpl
        generalize her : (sF.er : Int) = er at c4 hd hdn heI
        have HEI := Lib.hid her
        clear hpl her
        have zC0 := HXC0.out.cells 0 _ rfl
        have zC1 := HXC0.out.cells 1 _ rfl
        have gC0 := HXC0.out.fz 0
        have gC1 := HXC0.out.fz 1
        go_upto_region 9 with fail
        go_region
        all_goals go_wp2_with fail
        all_goals (try simp only [Exit.inBlock, Exit.then])
        all_goals refine bodyPost_ret (v := .tuple #[.agg #[.slice none 0 0, .slice none 0 0], .int .i64 pl, .int .i64 er]) ?_ rfl ?_
        all_goals first | (rw [results_cell_tmp3 rfl]; go_simp; done) | skip
        all_goals exact ⟨by rw [← HPL.out, ← HEI.out]; exact treeX_inl HTP.out _, (HKE.out _ _ HF0.out _ _).drew⟩

/-- A source that is a tree, to the program's parser: a tree of its own. -/
theorem srcX (s : ByteArray) (nd : List Nd) (fs : List Fnc) (h : allP 6100 s.data.toList = some (.inr (nd, fs))) (w : World) (he : ErrW w) : Calls Tryz.prog 8 #[.string s] w fun e w' => ∃ A c A' c', e = .returned (.tuple #[.agg #[.slice A nd.length c, .slice A' fs.length c'], .int .i64 0, .int .i64 0]) ∧ (∃ L M, L.map NM.d = nd ∧ M.map FM.d = fs ∧ TreeW w.heap.size w'.heap.size w' A A' L M 0 0) ∧ Keeps (fun _ => False) w w' := by
  obtain ⟨la, na, _⟩ := tree_out (Nat.le_refl _) h
  have hs : s.size ≤ 600 := by rw [← len_size]; exact la
  have h2 := h
  unfold allP at h2
  rw [if_neg (by omega), na] at h2
  exact (pall_okx s hs 6100 (by omega) _ na h2 w he (fun P => function_any (by omega) (by omega) (block_any (by omega) (by omega) (st_any (by omega) (by omega) 6100)))).mono fun e w' ⟨⟨A, c, A', c', h3, h4⟩, k⟩ => ⟨A, c, A', c', h3, h4, k⟩
end Go.Proofs.YtgelggdgbmldiaaGreatDoor

namespace Go.Proofs.YtgelggdgbmldiaaGreatDoor
open Go Go.RowKit Go.Shelf
set_option linter.unusedVariables false
set_option linter.unusedSimpArgs false

/-- Two trees, and the variables that hold them. -/
structure BlkW (w0 : World) (P1 P2 m k : Nat) (A A' B B' : Option Addr) (c c' d d' : Nat) (L : List NM) (M : List FM) (L2 : List NM) (M2 : List FM) (lo1 lo2 : Nat) (i1 j1 i2 j2 : Nat) (w : World) : Prop where
  x : Loc w (fun _ => False) P1 [.slice A m c, .slice A' k c']
  y : Loc w (fun _ => False) P2 [.slice B m d, .slice B' k d']
  t : TreeW lo1 P1 w A A' L M i1 j1
  u : TreeW lo2 P2 w B B' L2 M2 i2 j2
  kp : Keeps (fun b => w0.heap.size ≤ b) w0 w
  o1 : w0.heap.size ≤ lo1
  o2 : P1 < lo2
  o3 : P1 < P2
  o4 : w0.heap.size ≤ P1
  l1 : L.length = m
  l2 : M.length = k
  l3 : L2.length = m
  l4 : M2.length = k
section
variable {w0 w w' : World} {P1 P2 m k : Nat} {A A' B B' : Option Addr} {c c' d d' : Nat} {L : List NM} {M : List FM} {L2 : List NM} {M2 : List FM} {lo1 lo2 : Nat} {i1 j1 i2 j2 : Nat}
theorem BlkW.keep (h : BlkW w0 P1 P2 m k A A' B B' c c' d d' L M L2 M2 lo1 lo2 i1 j1 i2 j2 w) (q : Keeps (fun _ => False) w w') : BlkW w0 P1 P2 m k A A' B B' c c' d d' L M L2 M2 lo1 lo2 i1 j1 i2 j2 w' :=
  { h with x := h.x.keeps q, y := h.y.keeps q, t := h.t.keep q, u := h.u.keep q, kp := h.kp.trans q (fun _ _ h => h.elim) }
theorem BlkW.step1 (h : BlkW w0 P1 P2 m k A A' B B' c c' d d' L M L2 M2 lo1 lo2 i1 j1 i2 j2 w) (hi : i1 < m) : ∃ b v, A = some ⟨b, 0, none⟩ ∧ w.cell? ⟨b, i1 * 5 + 1, none⟩ = some v ∧ w.frozen? ⟨b, i1 * 5 + 1, none⟩ = false ∧ BlkW w0 P1 P2 m k A A' B B' c c' d d' L M L2 M2 lo1 lo2 (i1 + 1) j1 i2 j2 (w.setCell ⟨b, i1 * 5 + 1, none⟩ (.int .i64 0)) := by
  obtain ⟨b, v, e, h1, h2, h3, h4, h5⟩ := h.t.setN (by rw [h.l1]; exact hi)
  have q : Keeps (fun x => x = b) w (w.setCell ⟨b, i1 * 5 + 1, none⟩ (.int .i64 0)) := (Keeps.refl (fun x => x = b) w).setCell (p := ⟨b, i1 * 5 + 1, none⟩) (fun _ => rfl) _
  have o1 := h.o1
  have o2 := h.o2
  have o3 := h.o3
  have o4 := h.o4
  exact ⟨b, v, e, h3, h4, { h with x := h.x.keepsR q (fun e => by omega), y := h.y.keepsR q (fun e => by omega), t := h5, u := h.u.keepS q (fun b' g1 g2 e => by omega), kp := h.kp.trans q (fun x _ e => by have e : x = b := e; show w0.heap.size ≤ x; omega) }⟩
theorem BlkW.step2 (h : BlkW w0 P1 P2 m k A A' B B' c c' d d' L M L2 M2 lo1 lo2 i1 j1 i2 j2 w) (hi : i2 < m) : ∃ b v, B = some ⟨b, 0, none⟩ ∧ w.cell? ⟨b, i2 * 5 + 1, none⟩ = some v ∧ w.frozen? ⟨b, i2 * 5 + 1, none⟩ = false ∧ BlkW w0 P1 P2 m k A A' B B' c c' d d' L M L2 M2 lo1 lo2 i1 j1 (i2 + 1) j2 (w.setCell ⟨b, i2 * 5 + 1, none⟩ (.int .i64 0)) := by
  obtain ⟨b, v, e, h1, h2, h3, h4, h5⟩ := h.u.setN (by rw [h.l3]; exact hi)
  have q : Keeps (fun x => x = b) w (w.setCell ⟨b, i2 * 5 + 1, none⟩ (.int .i64 0)) := (Keeps.refl (fun x => x = b) w).setCell (p := ⟨b, i2 * 5 + 1, none⟩) (fun _ => rfl) _
  have o1 := h.o1
  have o2 := h.o2
  have o3 := h.o3
  have o4 := h.o4
  have hx := h.x.lt
  have hk := h.kp.size
  exact ⟨b, v, e, h3, h4, { h with x := h.x.keepsR q (fun e => by omega), y := h.y.keepsR q (fun e => by omega), u := h5, t := h.t.keepS q (fun b' g1 g2 e => by omega), kp := h.kp.trans q (fun x _ e => by have e : x = b := e; show w0.heap.size ≤ x; omega) }⟩
theorem BlkW.step3 (h : BlkW w0 P1 P2 m k A A' B B' c c' d d' L M L2 M2 lo1 lo2 i1 j1 i2 j2 w) (hi : j1 < k) : ∃ b v, A' = some ⟨b, 0, none⟩ ∧ w.cell? ⟨b, j1 * 5 + 1, none⟩ = some v ∧ w.frozen? ⟨b, j1 * 5 + 1, none⟩ = false ∧ BlkW w0 P1 P2 m k A A' B B' c c' d d' L M L2 M2 lo1 lo2 i1 (j1 + 1) i2 j2 (w.setCell ⟨b, j1 * 5 + 1, none⟩ (.int .i64 0)) := by
  obtain ⟨b, v, e, h1, h2, h3, h4, h5⟩ := h.t.setF (by rw [h.l2]; exact hi)
  have q : Keeps (fun x => x = b) w (w.setCell ⟨b, j1 * 5 + 1, none⟩ (.int .i64 0)) := (Keeps.refl (fun x => x = b) w).setCell (p := ⟨b, j1 * 5 + 1, none⟩) (fun _ => rfl) _
  have o1 := h.o1
  have o2 := h.o2
  have o3 := h.o3
  have o4 := h.o4
  exact ⟨b, v, e, h3, h4, { h with x := h.x.keepsR q (fun e => by omega), y := h.y.keepsR q (fun e => by omega), t := h5, u := h.u.keepS q (fun b' g1 g2 e => by omega), kp := h.kp.trans q (fun x _ e => by have e : x = b := e; show w0.heap.size ≤ x; omega) }⟩
theorem BlkW.step4 (h : BlkW w0 P1 P2 m k A A' B B' c c' d d' L M L2 M2 lo1 lo2 i1 j1 i2 j2 w) (hi : j2 < k) : ∃ b v, B' = some ⟨b, 0, none⟩ ∧ w.cell? ⟨b, j2 * 5 + 1, none⟩ = some v ∧ w.frozen? ⟨b, j2 * 5 + 1, none⟩ = false ∧ BlkW w0 P1 P2 m k A A' B B' c c' d d' L M L2 M2 lo1 lo2 i1 j1 i2 (j2 + 1) (w.setCell ⟨b, j2 * 5 + 1, none⟩ (.int .i64 0)) := by
  obtain ⟨b, v, e, h1, h2, h3, h4, h5⟩ := h.u.setF (by rw [h.l4]; exact hi)
  have q : Keeps (fun x => x = b) w (w.setCell ⟨b, j2 * 5 + 1, none⟩ (.int .i64 0)) := (Keeps.refl (fun x => x = b) w).setCell (p := ⟨b, j2 * 5 + 1, none⟩) (fun _ => rfl) _
  have o1 := h.o1
  have o2 := h.o2
  have o3 := h.o3
  have o4 := h.o4
  exact ⟨b, v, e, h3, h4, { h with x := h.x.keepsR q (fun e => by omega), y := h.y.keepsR q (fun e => by omega), u := h5, t := h.t.keepS q (fun b' g1 g2 e => by omega), kp := h.kp.trans q (fun x _ e => by have e : x = b := e; show w0.heap.size ≤ x; omega) }⟩
end

/-- The tokens of a source that is a tree. -/
theorem toks_data (a : List UInt8) (nd : List Nd) (fs : List Fnc) (ha : allP 6100 a = some (.inr (nd, fs))) (hl : a.length ≤ 300) :
    ∃ ini : List Tok, resX a = (ini ++ [⟨0, [], 0 + a.length⟩], 0, 0) ∧ ini.length ≤ 600 ∧ (∀ i, i ≤ ini.length → (joinN (ini.take i)).length ≤ 600) ∧ ∃ nd' fs', allP 6100 (joinN ini) = some (.inr (nd', fs')) ∧ nd'.map un = nd.map un ∧ fs'.map unF = fs.map unF := by
  obtain ⟨h1, h2, h3, h4, h5, nd', fs', h6, h7, h8⟩ := blanks_data a nd fs ha hl
  obtain ⟨ini, h9, h10⟩ := lexL_good a 0 h2
  have hts : (lexL a 0).1.dropLast = ini := by rw [h9]; simp
  rw [hts] at h1 h6
  have hlen := lexL_len a 0
  rw [h9, List.length_append] at hlen
  refine ⟨ini, ?_, by have : [(⟨0, [], 0 + a.length⟩ : Tok)].length = 1 := rfl; omega, fun i hi => ?_, nd', fs', h6, h7, h8⟩
  · unfold resX
    rw [if_neg (by omega), h2]
    show ((lexL a 0).1, 0, 0) = _
    rw [h9]
  · have h11 : joinN ini = joinN (ini.take i) ++ joinN (ini.drop i) := by rw [← joinN_append, List.take_append_drop]
    rw [h11, List.length_append] at h1
    omega
end Go.Proofs.YtgelggdgbmldiaaGreatDoor

namespace Go.Proofs.YtgelggdgbmldiaaGreatDoor
set_option linter.unusedVariables false
set_option linter.unusedSimpArgs false

structure BothT (nda ndb ndx : List Nd) (fa fb fx : List Fnc) : Prop where
  nn : ndx.length = nda.length + ndb.length
  nf : fx.length = fa.length + fb.length
  nds : ∀ i (hi : i < ndb.length) (hx : nda.length + i < ndx.length), (ndx[nda.length + i]).k = (ndb[i]).k ∧ (ndx[nda.length + i]).n = (ndb[i]).n ∧ (ndx[nda.length + i]).s = (ndb[i]).s ∧ (ndx[nda.length + i]).l = (ndb[i]).l.map (fun x => x + (nda.length : Int))
  fns : ∀ i (hi : i < fb.length) (hx : fa.length + i < fx.length), (fx[fa.length + i]).s = (fb[i]).s ∧ (fx[fa.length + i]).body = (fb[i]).body + (nda.length : Int)
  many : nda.length ≤ 300 ∧ ndb.length ≤ 300 ∧ fa.length ≤ 6 ∧ fb.length ≤ 6
  kids : ∀ i (hi : i < ndb.length), (ndb[i]).l.length ≤ 300 ∧ ∀ v ∈ (ndb[i]).l, 0 ≤ v ∧ v ≤ 300
  bods : ∀ i (hi : i < fb.length), 0 ≤ (fb[i]).body ∧ (fb[i]).body ≤ 300

theorem RFs.at {ph : Int → Int} {RL : Int → Int → Prop} : ∀ {l l' : List Fnc}, RFs ph RL l l' → ∀ i (hi : i < l.length) (hx : i < l'.length), RF ph RL (l[i]) (l'[i])
  | [], [], _, i, hi, _ => absurd hi (Nat.not_lt_zero _)
  | _ :: l, _ :: l', h, 0, _, _ => h.1
  | _ :: l, _ :: l', h, i + 1, hi, hx => RFs.at h.2 i (by simpa using hi) (by simpa using hx)
  | [], _ :: _, h, _, _, _ => h.elim
  | _ :: _, [], h, _, _, _ => h.elim

theorem both_tree (a b : List UInt8) (nda ndb : List Nd) (fa fb : List Fnc) (ha : allP 6100 a = some (.inr (nda, fa))) (hb : allP 6100 b = some (.inr (ndb, fb))) (hl : (a ++ 10 :: b).length ≤ 600) :
    (allP 6100 (a ++ 10 :: b) = some (.inl (0, 4)) ∧ (300 < nda.length + ndb.length ∨ 6 < fa.length + fb.length) ∧ nda.length ≤ 300 ∧ ndb.length ≤ 300 ∧ fa.length ≤ 6 ∧ fb.length ≤ 6) ∨
    (¬ (300 < nda.length + ndb.length ∨ 6 < fa.length + fb.length) ∧ ∃ ndx fx, allP 6100 (a ++ 10 :: b) = some (.inr (ndx, fx)) ∧ BothT nda ndb ndx fa fb fx) := by
  obtain ⟨h1, h2⟩ := both_data a b nda ndb fa fb ha hb hl
  have hA := fit_of ha
  have hB := fit_of hb
  have hBt := belowT_of 6100 b ndb fb hb
  by_cases hbig : 300 < nda.length + ndb.length ∨ 6 < fa.length + fb.length
  · exact .inl ⟨h1 hbig, hbig, hA.nds, hB.nds, hA.fns, hB.fns⟩
  · right
    obtain ⟨ndx, fx, fx', h3, h4, h5, h6⟩ := h2 hbig
    refine ⟨hbig, ndx, fx ++ fx', h3, ?_⟩
    have hn : ndx.length = nda.length + ndb.length := by
      have := congrArg List.length h4
      rwa [List.length_map, List.length_append, List.length_map, List.length_map] at this
    refine ⟨hn, by rw [List.length_append, h5.len, h6.len], ?_, ?_, ⟨hA.nds, hB.nds, hA.fns, hB.fns⟩, ?_, ?_⟩
    · intro i hi hx
      have e := congrArg (fun l : List Nd => l[nda.length + i]?) h4
      simp only [List.getElem?_map] at e
      rw [List.getElem?_append_right (by rw [List.length_map]; omega), List.length_map, show nda.length + i - nda.length = i by omega, List.getElem?_map, List.getElem?_eq_getElem hx, List.getElem?_eq_getElem hi] at e
      simp only [Option.map_some, Option.some.injEq] at e
      have e1 := congrArg Nd.k e
      have e2 := congrArg Nd.n e
      have e3 := congrArg Nd.s e
      have e4 := congrArg Nd.l e
      exact ⟨e1, e2, e3, e4⟩
    · intro i hi hx
      have hx' : i < fx'.length := by rw [h6.len]; exact hi
      have e : (fx ++ fx')[fa.length + i] = fx'[i] := by
        rw [List.getElem_append_right (by rw [h5.len]; omega)]
        congr 1
        rw [h5.len]
        omega
      rw [e]
      obtain ⟨g1, _, _, _, g5⟩ := h6.at i hi hx'
      exact ⟨g1, g5⟩
    · intro i hi
      refine ⟨hB.kids _ (List.getElem_mem hi), fun v hv => ?_⟩
      obtain ⟨_, _, h7⟩ := hBt.kids i (ndb[i]) (List.getElem?_eq_getElem hi)
      obtain ⟨j, m, e1, e2, _, _⟩ := h7 v hv
      have := hB.nds
      have hi2 : i < ndb.length := hi
      have h9 : (ndsOf (.inr (ndb, fb) : Res)).length = ndb.length := rfl
      omega
    · intro i hi
      obtain ⟨j, m, e1, e2, _⟩ := hBt.bods _ (List.getElem_mem hi)
      have h8 := (List.getElem?_eq_some_iff.1 e2).1
      have := hB.nds
      have h9 : (ndsOf (.inr (ndb, fb) : Res)).length = ndb.length := rfl
      omega
/-- No error, no refusal. -/
theorem er_tree {N : Nat} {src : List UInt8} {res : Res} (h : allP N src = some res) (he : erOf res = 0) : ∃ nd fs, res = .inr (nd, fs) := by
  cases res with
  | inl pe => exact absurd he (errs_ne N src pe.1 pe.2 h)
  | inr t => exact ⟨t.1, t.2, rfl⟩
end Go.Proofs.YtgelggdgbmldiaaGreatDoor
