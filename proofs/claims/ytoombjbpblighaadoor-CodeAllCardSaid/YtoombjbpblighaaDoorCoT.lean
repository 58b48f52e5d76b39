/-
  Layer 8: the code that is read, so far. Written by an AI agent.
-/
import Derived.Test.YtoombjbpblighaaDoorCoS
namespace Go.Proofs.YtoombjbpblighaaDoor
open Go Go.RowKit Go.Shelf
set_option linter.unusedVariables false
set_option linter.unusedSimpArgs false

def entsE : Nat → RS → RS × List Int
  | 0, s => (s, [])
  | n + 1, s => if s.e = 0 then ((entsE n (numE s).1).1, (numE s).2 :: (entsE n (numE s).1).2) else (s, [])
def inssE : Nat → RS → RS × List Ins
  | 0, s => (s, [])
  | n + 1, s => if s.e = 0 then ((inssE n (insE s).1).1, (insE s).2 :: (inssE n (insE s).1).2) else (s, [])
def entE (n : Int) (Z : List Int) (s : RS) : RS := Z.foldl (fun s a => needE (decide (0 ≤ a) && decide (a ≤ n)) s) s
def codeE (s : RS) : RS × List Ins × List Int :=
  let r := oneE s
  let q := entsE r.2.toNat (needE (decide (r.2 ≤ 6)) r.1)
  let n := numE q.1
  let t := inssE n.2.toNat (entE n.2 q.2 (needE (decide (0 ≤ n.2) && decide (n.2 ≤ 1200)) n.1))
  (t.1, t.2, q.2)
def valZ (Z : List Int) : List Value := Z.map (Value.int .i64)
theorem valZ_append (L M : List Int) : valZ (L ++ M) = valZ L ++ valZ M := by simp [valZ]
theorem valZ_one (L : List Int) : ∀ u ∈ valZ L, u.oneCell' = true := by
  intro u h
  simp only [valZ, List.mem_map] at h
  obtain ⟨b, _, rfl⟩ := h
  rfl

/-- The code so far. -/
structure OutC (w : World) (C : Nat) (vI vE : Value) (L : List Ins) (Z : List Int) : Prop where
  c0 : w.cell? ⟨C, 0, none⟩ = some vI
  c1 : w.cell? ⟨C, 1, none⟩ = some vE
  f0 : w.frozen? ⟨C, 0, none⟩ = false
  f1 : w.frozen? ⟨C, 1, none⟩ = false
  oI : w.ownsRow 0 52 4 vI L.length (flatI L)
  oE : w.ownsRow 0 3 1 vE Z.length (valZ Z)
  bI : ∀ g, vI.ownBlock = some g → C < g
  bE : ∀ g, vE.ownBlock = some g → C < g
  hd : ∀ g, vI.ownBlock = some g → vE.ownBlock ≠ some g
theorem OutC.lt {w : World} {C : Nat} {vI vE : Value} {L : List Ins} {Z : List Int} (h : OutC w C vI vE L Z) : C < w.heap.size := cell_ltk h.c0
theorem OutC.keep {S : Nat → Prop} {w w' : World} {C : Nat} {vI vE : Value} {L : List Ins} {Z : List Int} (h : OutC w C vI vE L Z) (hk : Keeps S w w') (hS : ∀ p, C ≤ p → ¬ S p) : OutC w' C vI vE L Z := by
  have hC := h.lt
  have hn := hS C (Nat.le_refl _)
  exact ⟨(hk.cell hC hn).trans h.c0, (hk.cell hC hn).trans h.c1, (hk.frozen hC hn).trans h.f0, (hk.frozen hC hn).trans h.f1,
    ownsRow_keep h.oI fun k hk2 => hk.block k (own_ltk h.oI hk2) (hS k (Nat.le_of_lt (h.bI k hk2))),
    ownsRow_keep h.oE fun k hk2 => hk.block k (own_ltk h.oE hk2) (hS k (Nat.le_of_lt (h.bE k hk2))), h.bI, h.bE, h.hd⟩
/-- One entry more. -/
theorem OutC.moreE {w w1 w5 : World} {C : Nat} {vI vE v5 : Value} {L : List Ins} {Z : List Int} (h : OutC w C vI vE L Z) (z : Int) (hk : Keeps (fun _ => False) w w1) (ho : w5.ownsRow 0 3 1 v5 (Z.length + 1) (valZ Z ++ [.int .i64 z])) (hg : w1.grownBy w5 vE.ownBlock)
    (hb : v5.ownBlock = vE.ownBlock ∨ v5.ownBlock = some w1.heap.size) :
    OutC (w5.setCell ⟨C, 1, none⟩ v5) C vI v5 L (Z ++ [z]) ∧ Keeps (fun b => C ≤ b) w (w5.setCell ⟨C, 1, none⟩ v5) ∧ w5.cell? ⟨C, 1, none⟩ = some vE ∧ w5.frozen? ⟨C, 1, none⟩ = false := by
  have hC := h.lt
  have k5 : Keeps (fun b => some b = vE.ownBlock) w w5 := (hk.mono (T := fun b => some b = vE.ownBlock) (fun _ _ h => h.elim)).grown hg fun k e _ => e.symm
  have hno : ¬ some C = vE.ownBlock := fun e => by have := h.bE C e.symm; omega
  have s1 := hk.size
  have hb5 : ∀ g, v5.ownBlock = some g → C < g := fun g hg2 => by
    rcases hb with e | e
    · exact h.bE g (e ▸ hg2)
    · rw [e] at hg2
      have : w1.heap.size = g := Option.some.inj hg2
      omega
  have c1 : w5.cell? ⟨C, 1, none⟩ = some vE := (k5.cell hC hno).trans h.c1
  have oI5 : w5.ownsRow 0 52 4 vI L.length (flatI L) := ownsRow_keep h.oI fun k hk2 => k5.block k (own_ltk h.oI hk2) (fun e => h.hd k hk2 e.symm)
  refine ⟨⟨(cell_other w5 1 0 _ (.inl (by omega))).trans ((k5.cell hC hno).trans h.c0), cell_same w5 _ _ _ _ c1, by rw [World.frozen?_setCell]; exact (k5.frozen hC hno).trans h.f0, by rw [World.frozen?_setCell]; exact (k5.frozen hC hno).trans h.f1, ?_, ?_, h.bI, hb5, ?_⟩, ?_, c1, (k5.frozen hC hno).trans h.f1⟩
  · exact ownsRow_keep oI5 (fun k hk => Below.heap_setCell w5 _ _ k (fun e => by have := h.bI k hk; have e : k = C := e; omega))
  · rw [List.length_append, valZ_append]
    exact ownsRow_keep ho (fun k hk => Below.heap_setCell w5 _ _ k (fun e => by have := hb5 k hk; have e : k = C := e; omega))
  · intro g hg2 e
    rcases hb with e2 | e2
    · exact h.hd g hg2 (e2 ▸ e)
    · rw [e2] at e
      have e3 : w1.heap.size = g := Option.some.inj e
      have := own_ltk h.oI hg2
      omega
  · exact ((k5.mono (T := fun b => C ≤ b) (fun b _ e => by have := h.bE b e.symm; omega))).setCell (fun _ => by show C ≤ C; omega) _
/-- One instruction more. -/
theorem OutC.moreI {w w1 w5 : World} {C : Nat} {vI vE v5 : Value} {L : List Ins} {Z : List Int} (h : OutC w C vI vE L Z) (x : Ins) (hk : Keeps (fun _ => False) w w1) (ho : w5.ownsRow 0 52 4 v5 (L.length + 1) (flatI L ++ x.cells)) (hg : w1.grownBy w5 vI.ownBlock)
    (hb : v5.ownBlock = vI.ownBlock ∨ v5.ownBlock = some w1.heap.size) :
    OutC (w5.setCell ⟨C, 0, none⟩ v5) C v5 vE (L ++ [x]) Z ∧ Keeps (fun b => C ≤ b) w (w5.setCell ⟨C, 0, none⟩ v5) ∧ w5.cell? ⟨C, 0, none⟩ = some vI ∧ w5.frozen? ⟨C, 0, none⟩ = false := by
  have hC := h.lt
  have k5 : Keeps (fun b => some b = vI.ownBlock) w w5 := (hk.mono (T := fun b => some b = vI.ownBlock) (fun _ _ h => h.elim)).grown hg fun k e _ => e.symm
  have hno : ¬ some C = vI.ownBlock := fun e => by have := h.bI C e.symm; omega
  have s1 := hk.size
  have hb5 : ∀ g, v5.ownBlock = some g → C < g := fun g hg2 => by
    rcases hb with e | e
    · exact h.bI g (e ▸ hg2)
    · rw [e] at hg2
      have : w1.heap.size = g := Option.some.inj hg2
      omega
  have c0 : w5.cell? ⟨C, 0, none⟩ = some vI := (k5.cell hC hno).trans h.c0
  have oE5 : w5.ownsRow 0 3 1 vE Z.length (valZ Z) := ownsRow_keep h.oE fun k hk2 => k5.block k (own_ltk h.oE hk2) (fun e => h.hd k e.symm hk2)
  refine ⟨⟨cell_same w5 _ _ _ _ c0, (cell_other w5 0 1 _ (.inl (by omega))).trans ((k5.cell hC hno).trans h.c1), by rw [World.frozen?_setCell]; exact (k5.frozen hC hno).trans h.f0, by rw [World.frozen?_setCell]; exact (k5.frozen hC hno).trans h.f1, ?_, ?_, hb5, h.bE, ?_⟩, ?_, c0, (k5.frozen hC hno).trans h.f0⟩
  · rw [List.length_append, flatI_append]
    refine ownsRow_keep (by simpa [flatI] using ho) (fun k hk => Below.heap_setCell w5 _ _ k (fun e => by have := hb5 k hk; have e : k = C := e; omega))
  · exact ownsRow_keep oE5 (fun k hk => Below.heap_setCell w5 _ _ k (fun e => by have := h.bE k hk; have e : k = C := e; omega))
  · intro g hg2 e
    rcases hb with e2 | e2
    · exact h.hd g (e2 ▸ hg2) e
    · rw [e2] at hg2
      have e3 : w1.heap.size = g := Option.some.inj hg2
      have := own_ltk h.oE e
      omega
  · exact ((k5.mono (T := fun b => C ≤ b) (fun b _ e => by have := h.bI b e.symm; omega))).setCell (fun _ => by show C ≤ C; omega) _
theorem OutC.start (w : World) : OutC (w.alloc (.cells #[.slice none 0 0, .slice none 0 0] 41)) w.heap.size (.slice none 0 0) (.slice none 0 0) [] [] := by
  obtain ⟨q0, q1, q2, q3⟩ := two_new w (.slice none 0 0) (.slice none 0 0) 41 rfl
  exact ⟨q0, q1, q2, q3, World.ownsRow_nil _ _ _ _, World.ownsRow_nil _ _ _ _, fun g hg => by simp [Value.ownBlock] at hg, fun g hg => by simp [Value.ownBlock] at hg, fun g hg => by simp [Value.ownBlock] at hg⟩

/-- A loop's rest. -/
theorem entsE_snoc (n : Nat) (s : RS) (h : s.e = 0) (Y : List Int) {T : RS × List Int} (hT : T = ((entsE (n + 1) s).1, Y ++ (entsE (n + 1) s).2)) : T = ((entsE n (numE s).1).1, (Y ++ [(numE s).2]) ++ (entsE n (numE s).1).2) := by
  rw [hT]
  simp [entsE, h]
theorem entsE_end (n : Nat) (s : RS) (h : n = 0 ∨ s.e ≠ 0) : entsE n s = (s, []) := by
  rcases n with _ | n
  · rfl
  · rcases h with h | h
    · omega
    · simp [entsE, h]
theorem inssE_snoc (n : Nat) (s : RS) (h : s.e = 0) (Y : List Ins) {T : RS × List Ins} (hT : T = ((inssE (n + 1) s).1, Y ++ (inssE (n + 1) s).2)) : T = ((inssE n (insE s).1).1, (Y ++ [(insE s).2]) ++ (inssE n (insE s).1).2) := by
  rw [hT]
  simp [inssE, h]
theorem inssE_end (n : Nat) (s : RS) (h : n = 0 ∨ s.e ≠ 0) : inssE n s = (s, []) := by
  rcases n with _ | n
  · rfl
  · rcases h with h | h
    · omega
    · simp [inssE, h]
theorem needE_ok {b : Bool} {s : RS} (h : (needE b s).e = 0) : b = true ∧ s.e = 0 := by
  unfold needE at h
  split at h
  · simp at h
  · rename_i hn
    refine ⟨?_, h⟩
    cases b
    · exact absurd ⟨h, rfl⟩ hn
    · rfl
theorem entE_ok (n : Int) (Z : List Int) : ∀ s, (entE n Z s).e = 0 → s.e = 0 ∧ ∀ a ∈ Z, 0 ≤ a ∧ a ≤ n := by
  induction Z with
  | nil => intro s h; exact ⟨h, by simp⟩
  | cons a Z ih =>
    intro s h
    obtain ⟨h1, h2⟩ := ih _ h
    obtain ⟨h3, h4⟩ := needE_ok h1
    refine ⟨h4, fun x hx => ?_⟩
    rcases List.mem_cons.1 hx with rfl | hx
    · simpa using h3
    · exact h2 x hx
end Go.Proofs.YtoombjbpblighaaDoor
