/-
  Layer 2: what two signs between three names are. Written by an AI agent.
-/
import Derived.Test.YtgelggdgbmldiaaDoorPbD
namespace Go.Proofs.YtgelggdgbmldiaaDoor
open Go Go.RowKit Go.Shelf
set_option linter.unusedVariables false
set_option linter.unusedSimpArgs false

def sgL : List (List UInt8) := [[124, 124], [38, 38], [60], [60, 61], [61, 61], [33, 61], [43], [45], [42], [47], [37]]
def lvL : List Int := [0, 1, 2, 2, 2, 2, 3, 3, 4, 4, 4]
def sg (i : Nat) : List UInt8 := sgL.getD i []
def lvl (i : Nat) : Int := lvL.getD i 0
def dn : Nd := ⟨0, 0, 0, [], []⟩
def sideSrc (i k : Nat) : List UInt8 := [102, 110, 32, 109, 97, 105, 110, 40, 41, 123, 112, 114, 105, 110, 116, 32, 97] ++ sg i ++ [98] ++ sg k ++ [99, 59, 125]
def bothTwo (i k : Nat) : Bool := decide (lvl i = 2) && decide (lvl k = 2)
/-- The top and the names below it. -/
def topOK (t : List Nd) (s : List UInt8) (p : List UInt8) (q : List UInt8) : Bool :=
  (decide (t.length = 7) && decide ((t.getD 4 dn).s = s)) && match (t.getD 4 dn).l with
    | [x, y] => ((decide (0 ≤ x) && decide (x < 7)) && (decide (0 ≤ y) && decide (y < 7))) && (decide ((t.getD x.toNat dn).s = p) && decide ((t.getD y.toNat dn).s = q))
    | _ => false
def sideOK (i k : Nat) : Bool :=
  match allP 40 (sideSrc i k) with
  | some (.inl pe) => bothTwo i k && decide (pe.2 = 20)
  | some (.inr t) => !(bothTwo i k) && (if lvl k ≤ lvl i then topOK t.1 (sg k) (sg i) [99] else topOK t.1 (sg i) [97] (sg k))
  | none => false
theorem sides_all : ((List.range 11).all fun i => (List.range 11).all fun k => sideOK i k) = true := by kernel_rfl
theorem side_at (i k : Nat) (hi : i < 11) (hk : k < 11) : sideOK i k = true := by
  have h := List.all_eq_true.1 sides_all i (List.mem_range.2 hi)
  exact List.all_eq_true.1 h k (List.mem_range.2 hk)

/-- A tree whose fifth node has two below it. -/
structure TopR (w : World) (A : Option Addr) (s p q : List UInt8) : Prop where
  ex : ∃ b off a2 c2 x y b2 off2, A = some ⟨b, off, none⟩ ∧ x < 7 ∧ y < 7 ∧ (∃ k ln n : Int, w.cell? ⟨b, off + 20, none⟩ = some (.int .i64 k) ∧ w.cell? ⟨b, off + 20 + 1, none⟩ = some (.int .i64 ln) ∧ w.cell? ⟨b, off + 20 + 2, none⟩ = some (.int .i64 n)) ∧
    w.cell? ⟨b, off + 20 + 3, none⟩ = some (.string (ofL s)) ∧ w.cell? ⟨b, off + 20 + 4, none⟩ = some (.slice a2 2 c2) ∧ a2 = some ⟨b2, off2, none⟩ ∧ w.cell? ⟨b2, off2, none⟩ = some (.int .i64 ((x : Nat) : Int)) ∧ w.cell? ⟨b2, off2 + 1, none⟩ = some (.int .i64 ((y : Nat) : Int)) ∧
    w.cell? ⟨b, off + x * 5 + 3, none⟩ = some (.string (ofL p)) ∧ w.cell? ⟨b, off + y * 5 + 3, none⟩ = some (.string (ofL q))
theorem top_of {w : World} {A A' : Option Addr} {nd : List Nd} {fs : List Fnc} {s p q : List UInt8} (h : TreeR 0 w A A' nd fs) (ho : topOK nd s p q = true) : nd.length = 7 ∧ TopR w A s p q := by
  unfold topOK at ho
  rw [Bool.and_eq_true, Bool.and_eq_true, decide_eq_true_eq, decide_eq_true_eq] at ho
  obtain ⟨⟨hl, hs⟩, hm⟩ := ho
  refine ⟨hl, ?_⟩
  obtain ⟨b, off, rfl, hn⟩ := h.nodeAt (by omega)
  have get : ∀ i (hi : i < nd.length), nd.getD i dn = nd[i] := fun i hi => by rw [List.getD, List.getElem?_eq_getElem hi]; rfl
  obtain ⟨a, c, n0, n1, n2, n3, n4, nr⟩ := hn 4 (by omega)
  rw [get 4 (by omega)] at hs hm
  cases hll : (nd[4]).l with
  | nil => rw [hll] at hm; cases hm
  | cons x r =>
    cases r with
    | nil => rw [hll] at hm; cases hm
    | cons y r2 =>
      cases r2 with
      | cons z r3 => rw [hll] at hm; cases hm
      | nil =>
        rw [hll] at hm n4 nr
        simp only [Bool.and_eq_true, decide_eq_true_eq] at hm
        obtain ⟨⟨⟨hx0, hx7⟩, hy0, hy7⟩, hp, hq⟩ := hm
        obtain ⟨xn, rfl⟩ := Int.eq_ofNat_of_zero_le hx0
        obtain ⟨yn, rfl⟩ := Int.eq_ofNat_of_zero_le hy0
        obtain ⟨b2, off2, rfl, hc⟩ := nr (by simp)
        have hx : xn < nd.length := by omega
        have hy : yn < nd.length := by omega
        rw [show ((xn : Int)).toNat = xn from rfl, get xn hx] at hp
        rw [show ((yn : Int)).toNat = yn from rfl, get yn hy] at hq
        obtain ⟨_, _, _, _, _, x3, _⟩ := hn xn hx
        obtain ⟨_, _, _, _, _, y3, _⟩ := hn yn hy
        rw [hp] at x3
        rw [hq] at y3
        rw [hs] at n3
        exact ⟨b, off, _, c, xn, yn, b2, off2, rfl, by omega, by omega, ⟨_, _, _, n0, n1, n2⟩, n3, n4, rfl, hc 0 (by simp), hc 1 (by simp), x3, y3⟩
theorem TopR.keep {w w' : World} {A : Option Addr} {s p q : List UInt8} (h : TopR w A s p q) (k : Keeps (fun _ => False) w w') : TopR w' A s p q := by
  obtain ⟨b, off, a2, c2, x, y, b2, off2, h1, h2, h3, ⟨k1, k2, k3, h4, h5, h6⟩, h7, h8, h9, h10, h11, h12, h13⟩ := h
  have g : ∀ {b o : Nat} {v : Value}, w.cell? ⟨b, o, none⟩ = some v → w'.cell? ⟨b, o, none⟩ = some v := fun hc => (k.cell (cell_ltk hc) (fun h => h)).trans hc
  exact ⟨b, off, a2, c2, x, y, b2, off2, h1, h2, h3, ⟨k1, k2, k3, g h4, g h5, g h6⟩, g h7, g h8, h9, g h10, g h11, g h12, g h13⟩

/-- What is told of two signs. -/
def SideI (i k : Nat) (w : World) (A : Option Addr) (m : Nat) (er : Int) : Prop :=
  (bothTwo i k = true ∧ er = 20) ∨ (bothTwo i k = false ∧ er = 0 ∧ m = 7 ∧ ((lvl k ≤ lvl i ∧ TopR w A (sg k) (sg i) [99]) ∨ (¬ lvl k ≤ lvl i ∧ TopR w A (sg i) [97] (sg k))))
theorem SideI.keep {i k : Nat} {w w' : World} {A : Option Addr} {m : Nat} {er : Int} (h : SideI i k w A m er) (kk : Keeps (fun _ => False) w w') : SideI i k w' A m er := by
  rcases h with h | ⟨h1, h2, h3, h4⟩
  · exact .inl h
  · exact .inr ⟨h1, h2, h3, h4.imp (fun h => ⟨h.1, h.2.keep kk⟩) (fun h => ⟨h.1, h.2.keep kk⟩)⟩
theorem side_any (i k : Nat) (hi : i < 11) (hk : k < 11) (s : ByteArray) (hs : s.data.toList = sideSrc i k) (w : World) (he : ErrW w) : Calls Tryd.prog 13 #[.string s] w fun e w' => ∃ A1 m1 c1 A2 m2 c2 at' er, e = .returned (.tuple #[.agg #[.slice A1 m1 c1, .slice A2 m2 c2], .int .i64 at', .int .i64 er]) ∧ SideI i k w' A1 m1 er ∧ Keeps (fun _ => False) w w' := by
  have h := side_at i k hi hk
  have hsz : s.size ≤ 1000 := by
    rw [← len_size, hs]
    have key : ∀ j, j < 11 → (sg j).length ≤ 2 := by decide
    have h1 := key i hi
    have h2 := key k hk
    unfold sideSrc
    simp only [List.length_append, List.length_cons, List.length_nil]
    omega
  unfold sideOK at h
  cases hp : allP 40 (sideSrc i k) with
  | none => rw [hp] at h; cases h
  | some res =>
    rw [hp] at h
    have hp2 : allP 40 s.data.toList = some res := by rw [hs]; exact hp
    refine (pall_any s hsz 40 (by omega) res hp2 w he).mono fun e w' ⟨ht, kk⟩ => ?_
    cases res with
    | inl pe =>
      rw [Bool.and_eq_true, decide_eq_true_eq] at h
      have ht : e = .returned (.tuple #[.agg #[.slice none 0 0, .slice none 0 0], .int .i64 (pe.1 : Int), .int .i64 (pe.2 : Int)]) := ht
      rw [h.2] at ht
      exact ⟨none, 0, 0, none, 0, 0, _, 20, ht, .inl ⟨h.1, rfl⟩, kk⟩
    | inr t =>
      rw [Bool.and_eq_true, Bool.not_eq_true'] at h
      obtain ⟨A, c, A', c', he2, htr⟩ := ht
      by_cases hl : lvl k ≤ lvl i
      · have h2 := h.2
        rw [if_pos hl] at h2
        have h3 := top_of htr h2
        exact ⟨A, _, c, A', _, c', 0, 0, he2, .inr ⟨h.1, rfl, h3.1, .inl ⟨hl, h3.2⟩⟩, kk⟩
      · have h2 := h.2
        rw [if_neg hl] at h2
        have h3 := top_of htr h2
        exact ⟨A, _, c, A', _, c', 0, 0, he2, .inr ⟨h.1, rfl, h3.1, .inr ⟨hl, h3.2⟩⟩, kk⟩

end Go.Proofs.YtgelggdgbmldiaaDoor
