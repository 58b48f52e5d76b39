/-
  Layer 2: rows of numbers that go below a node; a node by its contract. Written by an AI agent.
-/
import Derived.Test.YtgelggdgbmldiaaDoorPaJ
namespace Go.Proofs.YtgelggdgbmldiaaDoor
open Go Go.RowKit Go.Shelf
set_option linter.unusedVariables false
set_option linter.unusedSimpArgs false

def valI (l : List Int) : List Value := l.map (fun x => .int .i64 x)
theorem valI_append (l m : List Int) : valI (l ++ m) = valI l ++ valI m := by simp [valI]
theorem valI_length (l : List Int) : (valI l).length = l.length := by simp [valI]
theorem valI_at (l : List Int) (k : Nat) (h : k < l.length) : (valI l)[k]? = some (.int .i64 (l.getD k 0)) := by
  unfold valI
  rw [List.getElem?_map, List.getElem?_eq_getElem h]
  simp [List.getD, List.getElem?_eq_getElem h]
theorem valI_one (l : List Int) : ∀ u ∈ valI l, u.oneCell' = true := by
  intro u hu
  obtain ⟨x, _, rfl⟩ := List.mem_map.1 hu
  rfl
theorem info_int : (Tryd.prog.info? 3).map (fun i => (i.zero, i.size, i.bytes)) = some (some (.int .i64 0), 1, 8) := by kernel_rfl
theorem own_rdI {w : World} {A : Option Addr} {n c : Nat} {l : List Int} (h : w.ownsRow 0 3 1 (.slice A n c) n (valI l)) (hn : n = l.length) : RdI w A l := fun h0 => by
  rcases h.2 with ⟨e1, h1⟩ | ⟨g, cap, cur, e1, _⟩
  · omega
  · have e2 : A = some ⟨g, 0, none⟩ := by injection e1
    subst e2
    refine ⟨g, 0, rfl, fun k hk => ?_⟩
    rw [Nat.zero_add]
    exact (h.cellAt k (by omega)).trans (valI_at l k hk)
theorem newsI {w : World} (z : Int) (t : TypeId) : ∀ j u, (valI [z])[j]? = some u → (w.alloc (.cells #[.int .i64 z] t)).cell? ((⟨w.heap.size, 0, none⟩ : Addr).add j) = some u := by
  intro j u h
  have e : (⟨w.heap.size, 0, none⟩ : Addr).add j = ⟨w.heap.size, j, none⟩ := by unfold Addr.add; split <;> simp_all
  rw [e, World.cell?_alloc_mark]
  match j, h with
  | 0, h => simpa [valI] using h

/-- What goes below a node: a row that is not the parser's. -/
def NewRow (P : Nat) (R : Nat → Prop) (a : Option Addr) (l : List Int) : Prop := 0 < l.length → ∃ X off, a = some ⟨X, off, none⟩ ∧ ¬ R X ∧ P < X

/-- The contract of a function that puts a node. -/
def NodeC (P : Nat) (src : ByteArray) (T : List Tok) (f : Nat) (mm : Nd → List Int → PM Int) : Prop :=
  ∀ (k ln n : Int) (x : List UInt8) (l : List Int) (s s' : PS) (r : Int) (R : Nat → Prop) (w : World) (a0 : Option Addr) (m0 c0 : Nat) (a : Option Addr) (c : Nat), mm ⟨k, ln, n, x, []⟩ l s = some (r, s') → Par w P src T R s → RdI w a l → NewRow P R a l →
    Calls Tryd.prog f #[.pointer (some ⟨P, 0, none⟩), .agg #[.int .i64 k, .int .i64 ln, .int .i64 n, .string (ofL x), .slice a0 m0 c0], .slice a l.length c] w fun e w' => e = .returned (.int .i64 r) ∧ ∃ R', Par w' P src T R' s' ∧ Keeps R w w' ∧ ∀ b, b < w.heap.size → R' b → R b ∨ ∃ off, a = some ⟨b, off, none⟩

theorem nodeC (P : Nat) (src : ByteArray) (T : List Tok) : NodeC P src T 85 nodeM := by
  intro k ln n x l s s' r R w a0 m0 c0 a c hm hp hr hn
  obtain ⟨h1, rfl, rfl⟩ := node_out hm
  by_cases h0 : 0 < l.length
  · obtain ⟨X, off, e1, hX, hPX⟩ := hn h0
    refine (node_any hp ⟨k, ln, n, x, []⟩ a0 m0 c0 a c l hr X (fun _ => ⟨off, e1⟩) hX hPX h1).mono fun e w' ⟨h1, R', h2, h3, h4⟩ => ⟨h1, R', h2, h3, fun b hb hr => (h4 b hb hr).imp id fun e2 => ⟨off, by rw [e2]; exact e1⟩⟩
  · refine (node_any hp ⟨k, ln, n, x, []⟩ a0 m0 c0 a c l hr w.heap.size (fun h => absurd h h0) hp.new hp.lo h1).mono fun e w' ⟨h1, R', h2, h3, h4⟩ => ⟨h1, R', h2, h3, fun b hb hr => (h4 b hb hr).imp id fun e => by omega⟩

section
variable {P : Nat} {src : ByteArray} {T : List Tok} {f : Nat} {mm : Nd → List Int → PM Int} {R : Nat → Prop} {s s' : PS} {w : World} {r : Int}
theorem NodeC.nil (h : NodeC P src T f mm) (hp : Par w P src T R s) (k ln n : Int) (x : List UInt8) (hm : mm ⟨k, ln, n, x, []⟩ [] s = some (r, s')) :
    Calls Tryd.prog f #[.pointer (some ⟨P, 0, none⟩), .agg #[.int .i64 k, .int .i64 ln, .int .i64 n, .string (ofL x), .slice none 0 0], .slice none 0 0] w (Post P src T R w (.int .i64 r) s') :=
  (h k ln n x [] s s' r R w none 0 0 none 0 hm hp (fun h => absurd h (by simp)) (fun h => absurd h (by simp))).mono fun e w' ⟨h1, R', h2, h3, h4⟩ => ⟨h1, R', h2, h3, fun b hb hr => (h4 b hb hr).elim id (fun ⟨off, e⟩ => by cases e)⟩
theorem NodeC.fresh (h : NodeC P src T f mm) (hp : Par w P src T R s) (k ln n : Int) (x : List UInt8) (l : List Int) (o : Obj) (m : Nat) (hl : m = l.length) (hr : RdI (w.alloc o) (some ⟨w.heap.size, 0, none⟩) l) (hm : mm ⟨k, ln, n, x, []⟩ l s = some (r, s')) :
    Calls Tryd.prog f #[.pointer (some ⟨P, 0, none⟩), .agg #[.int .i64 k, .int .i64 ln, .int .i64 n, .string (ofL x), .slice none 0 0], .slice (some ⟨w.heap.size, 0, none⟩) m m] (w.alloc o) (Post P src T R w (.int .i64 r) s') := by
  subst hl
  refine (h k ln n x l s s' r R (w.alloc o) none 0 0 (some ⟨w.heap.size, 0, none⟩) l.length hm (hp.keep (Keeps.one w o)) hr (fun _ => ⟨w.heap.size, 0, rfl, hp.new, hp.lo⟩)).mono fun e w' ⟨h1, R', h2, h3, h4⟩ => ⟨h1, R', h2, ?_, fun b hb hr => ?_⟩
  · exact ((Keeps.one w o).mono (T := R) (fun _ _ h => h.elim)).trans h3 (fun _ _ h => h)
  · rcases h4 b (by rw [World.size_alloc]; omega) hr with h5 | ⟨off, e⟩
    · exact h5
    · cases e
      exact absurd hb (Nat.lt_irrefl _)
theorem NodeC.one (h : NodeC P src T f mm) (hp : Par w P src T R s) (k ln n : Int) (x : List UInt8) (a : Int) (hm : mm ⟨k, ln, n, x, []⟩ [a] s = some (r, s')) :
    Calls Tryd.prog f #[.pointer (some ⟨P, 0, none⟩), .agg #[.int .i64 k, .int .i64 ln, .int .i64 n, .string (ofL x), .slice none 0 0], .slice (some ⟨w.heap.size, 0, none⟩) 1 1] (w.alloc (.cells #[.int .i64 a] 3)) (Post P src T R w (.int .i64 r) s') :=
  h.fresh hp k ln n x [a] _ 1 rfl (fun _ => ⟨w.heap.size, 0, rfl, fun j hj => by
    have : j = 0 := by simp at hj; omega
    subst this
    exact World.cell?_alloc_mark w #[.int .i64 a] 3 (0, 0) 0⟩) hm
theorem NodeC.two (h : NodeC P src T f mm) (hp : Par w P src T R s) (k ln n : Int) (x : List UInt8) (a b : Int) (hm : mm ⟨k, ln, n, x, []⟩ [a, b] s = some (r, s')) :
    Calls Tryd.prog f #[.pointer (some ⟨P, 0, none⟩), .agg #[.int .i64 k, .int .i64 ln, .int .i64 n, .string (ofL x), .slice none 0 0], .slice (some ⟨w.heap.size, 0, none⟩) 2 2] (w.alloc (.cells #[.int .i64 a, .int .i64 b] 3)) (Post P src T R w (.int .i64 r) s') :=
  h.fresh hp k ln n x [a, b] _ 2 rfl (fun _ => ⟨w.heap.size, 0, rfl, fun j hj => by
    rw [Nat.zero_add, World.cell?_alloc_mark w #[.int .i64 a, .int .i64 b] 3 (0, 0) j]
    match j, hj with
    | 0, _ => rfl
    | 1, _ => rfl⟩) hm
/-- A row that the caller made since its beginning, at w0. -/
theorem NodeC.row (h : NodeC P src T f mm) (hp : Par w P src T R s) (k ln n : Int) (x : List UInt8) (l : List Int) {A : Option Addr} {m c : Nat} (hl : m = l.length) (ho : w.ownsRow 0 3 1 (.slice A m c) m (valI l)) {R0 : Nat → Prop} {w0 : World} (hf : Fr R0 w0 R w) (hP0 : P < w0.heap.size)
    (hb : ∀ g, (Value.slice A m c).ownBlock = some g → ¬ R g ∧ w0.heap.size ≤ g) (hm : mm ⟨k, ln, n, x, []⟩ l s = some (r, s')) :
    Calls Tryd.prog f #[.pointer (some ⟨P, 0, none⟩), .agg #[.int .i64 k, .int .i64 ln, .int .i64 n, .string (ofL x), .slice none 0 0], .slice A m c] w (Post P src T R0 w0 (.int .i64 r) s') := by
  have hr := own_rdI ho hl
  subst hl
  have form : 0 < l.length → ∃ g, A = some ⟨g, 0, none⟩ ∧ (Value.slice A l.length c).ownBlock = some g := fun h0 => by
    rcases ho.2 with ⟨e1, h1⟩ | ⟨g, cap, cur, e1, _⟩
    · omega
    · have e2 : A = some ⟨g, 0, none⟩ := by injection e1
      exact ⟨g, e2, by rw [e2]; rfl⟩
  refine (h k ln n x l s s' r R w none 0 0 A c hm hp hr (fun h0 => ?_)).mono fun e w' ⟨h1, R', h2, h3, h4⟩ => ⟨h1, R', h2, hf.1.trans h3 (fun x hx hr => hf.2 x hx hr), fun b hb2 hr2 => ?_⟩
  · obtain ⟨g, e, eb⟩ := form h0
    exact ⟨g, 0, e, (hb g eb).1, Nat.lt_of_lt_of_le hP0 (hb g eb).2⟩
  · rcases h4 b (Nat.lt_of_lt_of_le hb2 hf.1.size) hr2 with h5 | ⟨off, e⟩
    · exact hf.2 b hb2 h5
    · exfalso
      rcases ho.2 with ⟨e1, h1⟩ | ⟨g, cap, cur, e1, _⟩
      · have e2 : A = none := by injection e1
        rw [e2] at e
        cases e
      · have e2 : A = some ⟨g, 0, none⟩ := by injection e1
        have hg := (hb g (by rw [e2]; rfl)).2
        rw [e2] at e
        cases e
        omega
end

theorem own_keep {w w' : World} {R R' : Nat → Prop} {v : Value} {n : Nat} {xs : List Value} (h : w.ownsRow 0 3 1 v n xs) (f : Fr R w R' w') {B : Nat} (hb : ∀ g, v.ownBlock = some g → ¬ R g ∧ B ≤ g) :
    w'.ownsRow 0 3 1 v n xs ∧ ∀ g, v.ownBlock = some g → ¬ R' g ∧ B ≤ g :=
  ⟨ownsRow_keep h (fun g hg => f.1.block g (own_ltk h hg) (hb g hg).1), fun g hg => ⟨fun hr => (hb g hg).1 (f.2 g (own_ltk h hg) hr), (hb g hg).2⟩⟩
/-- A number more, behind what the caller made. -/
theorem own_more {w w1 w5 : World} {R R0 : Nat → Prop} {w0 : World} {P : Nat} {src : ByteArray} {T : List Tok} {s : PS} {v v5 : Value} (hp : Par w P src T R s) (hf : Fr R0 w0 R w) (hP0 : P < w0.heap.size) (hb : ∀ g, v.ownBlock = some g → ¬ R g ∧ w0.heap.size ≤ g) (k1 : Keeps (fun _ => False) w w1)
    (hg : w1.grownBy w5 v.ownBlock) (h5 : v5.ownBlock = v.ownBlock ∨ v5.ownBlock = some w1.heap.size) :
    Par w5 P src T R s ∧ Fr R0 w0 R w5 ∧ (∀ g, v5.ownBlock = some g → ¬ R g ∧ w0.heap.size ≤ g) ∧ Keeps (fun b => v.ownBlock = some b) w w5 := by
  have k15 : Keeps (fun b => v.ownBlock = some b) w1 w5 := ⟨hg.os, hg.tape, hg.output, hg.size, fun b hb hn => hg.block b hb (fun e => hn e.symm)⟩
  have k : Keeps (fun b => v.ownBlock = some b) w w5 := (k1.mono (T := fun b => v.ownBlock = some b) (fun _ _ h => h.elim)).trans k15 (fun _ _ h => h)
  refine ⟨hp.keepR k (fun b hr hv => (hb b hv).1 hr) (fun b hv => Nat.le_of_lt (Nat.lt_of_lt_of_le hP0 (hb b hv).2)), ⟨hf.1.trans (T := fun b => v.ownBlock = some b) k (fun x hx hv => absurd (hb x hv).2 (by omega)), hf.2⟩, fun g hg5 => ?_, k⟩
  rcases h5 with e | e
  · rw [e] at hg5
    exact hb g hg5
  · rw [e] at hg5
    cases hg5
    have h1 := k1.size
    have h2 := hf.1.size
    exact ⟨fun hr => by have := hp.lt _ hr; omega, by omega⟩
theorem Loc.keepsR {w w' : World} {R : Nat → Prop} {X : Nat} {vs : List Value} (h : Loc w R X vs) {S : Nat → Prop} (k : Keeps S w w') (hX : ¬ S X) : Loc w' R X vs :=
  ⟨Nat.lt_of_lt_of_le h.lt k.size, h.out, fun j u hu => (k.cell h.lt hX).trans (h.cells j u hu), fun j => (k.frozen h.lt hX).trans (h.fz j)⟩

end Go.Proofs.YtgelggdgbmldiaaDoor
