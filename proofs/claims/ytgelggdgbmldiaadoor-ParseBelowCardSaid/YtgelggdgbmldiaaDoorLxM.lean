/-
  Layer 1: tokens in memory; the contract of what puts one behind the others. Written by an AI agent.
-/
import Derived.Test.YtgelggdgbmldiaaDoorLxL
namespace Go.Proofs.YtgelggdgbmldiaaDoor
open Go.RowKit Go.Shelf
set_option linter.unusedVariables false
set_option linter.unusedSimpArgs false

theorem info33 : (Tryd.prog.info? 54).map (fun i => (i.zero, i.size, i.bytes)) = some (some (.agg #[.int .i64 0, .string ⟨#[]⟩, .int .i64 0]), 3, 32) := by kernel_rfl
theorem info_parts {P : Program} {t : TypeId} {z : Value} {sz by' : Nat} (h : (P.info? t).map (fun i => (i.zero, i.size, i.bytes)) = some (some z, sz, by')) : ∃ i, P.info? t = some i ∧ i.zero = some z ∧ i.size = sz ∧ i.bytes = by' := by
  cases hi : P.info? t with
  | none => rw [hi] at h; cases h
  | some i =>
    rw [hi] at h
    have h2 := Option.some.inj h
    exact ⟨i, rfl, congrArg (·.1) h2, congrArg (·.2.1) h2, congrArg (·.2.2) h2⟩

def Tok.cells (t : Tok) : List Value := [.int .i64 (t.k : Int), .string (ofL t.x), .int .i64 (t.p : Int)]
def flatT (L : List Tok) : List Value := L.flatMap Tok.cells
theorem flatT_cons (a : Tok) (L : List Tok) : flatT (a :: L) = a.cells ++ flatT L := by simp [flatT]
theorem flatT_append (L M : List Tok) : flatT (L ++ M) = flatT L ++ flatT M := by simp [flatT]
theorem flatT_length (L : List Tok) : (flatT L).length = L.length * 3 := by
  induction L with
  | nil => rfl
  | cons a L ih => rw [flatT_cons, List.length_append, ih, List.length_cons]; show 3 + _ = _; omega
theorem flatT_one (L : List Tok) : ∀ u ∈ flatT L, u.oneCell' = true := by
  intro u hu
  simp only [flatT, List.mem_flatMap] at hu
  obtain ⟨a, _, hu⟩ := hu
  simp only [Tok.cells, List.mem_cons, List.not_mem_nil, or_false] at hu
  rcases hu with rfl | rfl | rfl <;> rfl
theorem flatT_at (L : List Tok) (i : Nat) (h : i < L.length) : (flatT L)[i * 3]? = some (.int .i64 ((L.getD i default).k : Int)) ∧ (flatT L)[i * 3 + 1]? = some (.string (ofL (L.getD i default).x)) ∧ (flatT L)[i * 3 + 2]? = some (.int .i64 ((L.getD i default).p : Int)) := by
  induction L generalizing i with
  | nil => exact absurd h (Nat.not_lt_zero _)
  | cons a L ih =>
    rw [flatT_cons]
    cases i with
    | zero => exact ⟨rfl, rfl, rfl⟩
    | succ i =>
      have h2 := ih i (by simpa using h)
      rw [show (i + 1) * 3 = i * 3 + 1 + 1 + 1 by omega]
      exact h2

theorem own_of {w : World} {v : Value} {n : Nat} {xs : List Value} (h : w.ownsRow 0 54 3 v n xs) {w' : World} (hk : Keeps (fun _ => False) w w') : w'.ownsRow 0 54 3 v n xs := ownsRow_keep h fun k hk2 => hk.block k (own_ltk h hk2) (fun h => h)
theorem Tok.one (x : Tok) : ∀ u ∈ x.cells, u.oneCell' = true := by
  intro u hu
  simp only [Tok.cells, List.mem_cons, List.not_mem_nil, or_false] at hu
  rcases hu with rfl | rfl | rfl <;> rfl
theorem news3 {w : World} {s : Nat} (x : Tok) (t : TypeId) (hs : w.heap.size = s) : ∀ j u, x.cells[j]? = some u → (w.alloc (.cells x.cells.toArray t)).cell? ((⟨s, 0, none⟩ : Addr).add j) = some u := by
  intro j u h
  subst hs
  have e : (⟨w.heap.size, 0, none⟩ : Addr).add j = ⟨w.heap.size, j, none⟩ := by unfold Addr.add; split <;> simp_all
  rw [e]
  have hj : j < 3 := (List.getElem?_eq_some_iff.1 h).1
  match j, hj with
  | 0, _ => simpa [Tok.cells] using h
  | 1, _ => simpa [Tok.cells] using h
  | 2, _ => simpa [Tok.cells] using h

/-- The tokens so far, and the place. -/
structure Out (w : World) (B po pa : Nat) (v : Value) (L : List Tok) (p : Nat) : Prop where
  co : w.cell? ⟨po, 0, none⟩ = some v
  ca : w.cell? ⟨pa, 0, none⟩ = some (.int .i64 (p : Int))
  fo : w.frozen? ⟨po, 0, none⟩ = false
  fa : w.frozen? ⟨pa, 0, none⟩ = false
  own : w.ownsRow 0 54 3 v L.length (flatT L)
  hb : ∀ g, v.ownBlock = some g → B ≤ g ∧ g ≠ po ∧ g ≠ pa
  bo : B ≤ po
  ba : B ≤ pa
  ne : po ≠ pa

theorem cell_other (w : World) {p q : Nat} (i j : Nat) (v : Value) (h : i ≠ j ∨ p ≠ q) : (w.setCell ⟨p, i, none⟩ v).cell? ⟨q, j, none⟩ = w.cell? ⟨q, j, none⟩ := World.cell?_setCell_other w _ _ _ (by simp only [ne_eq, Addr.mk.injEq, and_true]; omega)
theorem cell_same (w : World) (p i : Nat) (v x : Value) (h : w.cell? ⟨p, i, none⟩ = some x) : (w.setCell ⟨p, i, none⟩ v).cell? ⟨p, i, none⟩ = some v := World.cell?_setCell_same' w _ _ (by rw [h]; rfl)

section
variable {w w' : World} {B po pa p : Nat} {v : Value} {L : List Tok}
theorem Out.lto (h : Out w B po pa v L p) : po < w.heap.size := cell_ltk h.co
theorem Out.lta (h : Out w B po pa v L p) : pa < w.heap.size := cell_ltk h.ca
theorem Out.keep (h : Out w B po pa v L p) (hk : Keeps (fun _ => False) w w') : Out w' B po pa v L p :=
  ⟨(hk.cell h.lto (fun h => h)).trans h.co, (hk.cell h.lta (fun h => h)).trans h.ca, (hk.frozen h.lto (fun h => h)).trans h.fo, (hk.frozen h.lta (fun h => h)).trans h.fa, own_of h.own hk, h.hb, h.bo, h.ba, h.ne⟩
/-- The place is set. -/
theorem Out.go (h : Out w B po pa v L p) (q : Nat) : Out (w.setCell ⟨pa, 0, none⟩ (.int .i64 (q : Int))) B po pa v L q ∧ Keeps (fun b => B ≤ b) w (w.setCell ⟨pa, 0, none⟩ (.int .i64 (q : Int))) :=
  ⟨⟨(cell_other w 0 0 _ (.inr (fun e => h.ne e.symm))).trans h.co, cell_same w _ _ _ _ h.ca, by rw [World.frozen?_setCell]; exact h.fo, by rw [World.frozen?_setCell]; exact h.fa,
    ownsRow_keep h.own (fun k hk => Below.heap_setCell w _ _ k (fun e => (h.hb k hk).2.2 e)), h.hb, h.bo, h.ba, h.ne⟩,
    (Keeps.refl _ w).setCell (fun _ => h.ba) _⟩
/-- A token more. -/
theorem Out.more (h : Out w B po pa v L p) (t : Tok) {w1 w5 : World} {v5 : Value} (hk : Keeps (fun _ => False) w w1) (ho : w5.ownsRow 0 54 3 v5 (L.length + 1) (flatT L ++ t.cells)) (hg : w1.grownBy w5 v.ownBlock) (hb : v5.ownBlock = v.ownBlock ∨ v5.ownBlock = some w1.heap.size) :
    Out (w5.setCell ⟨po, 0, none⟩ v5) B po pa v5 (L ++ [t]) p ∧ Keeps (fun b => B ≤ b) w (w5.setCell ⟨po, 0, none⟩ v5) ∧ w5.cell? ⟨po, 0, none⟩ = some v ∧ w5.frozen? ⟨po, 0, none⟩ = false := by
  have k5 : Keeps (fun b => some b = v.ownBlock) w w5 := (hk.mono (T := fun b => some b = v.ownBlock) (fun _ _ h => h.elim)).grown hg fun k e _ => e.symm
  have no : ¬ some po = v.ownBlock := fun e => (h.hb po e.symm).2.1 rfl
  have na : ¬ some pa = v.ownBlock := fun e => (h.hb pa e.symm).2.2 rfl
  have c1 : w5.cell? ⟨po, 0, none⟩ = some v := (k5.cell h.lto no).trans h.co
  have c2 : w5.cell? ⟨pa, 0, none⟩ = some (.int .i64 (p : Int)) := (k5.cell h.lta na).trans h.ca
  have f1 : w5.frozen? ⟨po, 0, none⟩ = false := (k5.frozen h.lto no).trans h.fo
  have f2 : w5.frozen? ⟨pa, 0, none⟩ = false := (k5.frozen h.lta na).trans h.fa
  have s1 := hk.size
  have l1 := h.lto
  have l2 := h.lta
  have b1 := h.bo
  have hb5 : ∀ g, v5.ownBlock = some g → B ≤ g ∧ g ≠ po ∧ g ≠ pa := fun g hg2 => by
    rcases hb with e | e
    · exact h.hb g (e ▸ hg2)
    · rw [e] at hg2
      have : w1.heap.size = g := Option.some.inj hg2
      omega
  refine ⟨⟨cell_same w5 _ _ _ _ c1, (cell_other w5 0 0 _ (.inr h.ne)).trans c2, by rw [World.frozen?_setCell]; exact f1, by rw [World.frozen?_setCell]; exact f2, ?_, hb5, h.bo, h.ba, h.ne⟩, ?_, c1, f1⟩
  · rw [List.length_append, flatT_append]
    refine ownsRow_keep (by simpa [flatT] using ho) (fun k hk => Below.heap_setCell w5 _ _ k (fun e => (hb5 k hk).2.1 e))
  · exact ((k5.mono (T := fun b => B ≤ b) (fun b _ e => (h.hb b e.symm).1))).setCell (fun _ => h.bo) _
end

set_option maxRecDepth 100000 in
set_option maxHeartbeats 4000000 in
theorem put_any (w : World) (B po pa : Nat) (v : Value) (L : List Tok) (p : Nat) (h : Out w B po pa v L p) (hL : L.length ≤ 1000) (hp : p ≤ 1000) (k : Nat) (x : List UInt8) (z : Nat) (hz : z ≤ 1000) :
    Calls Tryd.prog 42 #[.int .i64 (k : Int), .string (ofL x), .int .i64 (z : Int), .pointer (some ⟨po, 0, none⟩), .pointer (some ⟨pa, 0, none⟩)] w fun e w' => e = .returned (.tuple #[]) ∧ (∃ v', Out w' B po pa v' (L ++ [⟨k, x, p⟩]) (p + z)) ∧ Keeps (fun b => B ≤ b) w w' := by
  obtain ⟨i0, hi, hz0, hz1, hz2⟩ := info_parts info33
  have co := h.co
  have ca := h.ca
  have hpl := h.lto
  have hal := h.lta
  obtain ⟨n, hn⟩ : ∃ n : Nat, n = L.length := ⟨_, rfl⟩
  have HO := Lib.hid h
  have HN := Lib.hid hn
  have hpn : po ≠ w.heap.size := by omega
  have han : pa ≠ w.heap.size := by omega
  rw [← hn] at hL
  clear h hn
  obtain ⟨X, hX⟩ : ∃ X : ByteArray, X = ofL x := ⟨_, rfl⟩
  have HX := Lib.hid hX
  rw [← hX]
  clear hX
  have sw : IntKind.i64.wrap ((p : Int) + (z : Int)) = (p : Int) + (z : Int) := IntWalk.i64_in _ (by omega)
  go_enter Tryd.func42, Tryd.ntmps42
  go_upto_region 1 with (at_builtin; refine wpList_append_atk rfl (.tmp 8) (.tmp 13) 46 rfl 0 54 i0 _ 3 32 Tryd.underlying46 hi hz0 hz1 hz2 (by rfl) (by omega) v n (flatT L) (by rfl) (by rw [HN.out]; exact own_of HO.out.own ((Keeps.refl _ w).alloc _)) ⟨w.heap.size, 0, none⟩ 1 1 (⟨k, x, p⟩ : Tok).cells (by rfl) (by rfl) (by rw [show (⟨k, x, p⟩ : Tok).cells = [.int .i64 (k : Int), .string X, .int .i64 (p : Int)] by rw [HX.out]; rfl]; exact (by have h := news3 (w := w) ⟨k, x, p⟩ 54 rfl; rw [show (⟨k, x, p⟩ : Tok).cells = [.int .i64 (k : Int), .string X, .int .i64 (p : Int)] by rw [HX.out]; rfl] at h; exact h)) (Tok.one _) (by omega) (by omega) (Nat.zero_le _) ?_
                         intro v5 w5 h5 g5 b5
                         obtain ⟨A5, c5', rfl⟩ := own_formk h5
                         have hm := HO.out.more ⟨k, x, p⟩ ((Keeps.refl _ w).alloc _) (by rw [← HN.out]; exact h5) g5 b5
                         have HM := Lib.hid hm.1
                         have K5 := Lib.hid hm.2.1
                         have c5 := hm.2.2.1
                         have f5 := hm.2.2.2
                         clear hm h5 g5 b5)
  have HOw := HM.out
  obtain ⟨w6, hw6⟩ : ∃ w6 : World, w6 = w5.setCell ⟨po, 0, none⟩ (.slice A5 (n + 1) c5') := ⟨_, rfl⟩
  rw [← hw6] at HM K5 HOw ⊢
  clear hw6 c5 f5 co ca
  have ca := HOw.ca
  have fa := HOw.fa
  have hgo := HOw.go (p + z)
  have K6 := Lib.hid (K5.out.trans hgo.2 (fun _ _ h => h))
  have H6 := Lib.hid hgo.1
  clear HOw hgo
  rw [show ((p + z : Nat) : Int) = (p : Int) + (z : Int) by omega] at K6 H6
  go_wp2
  exact bodyPost_end (v := .tuple #[]) (by simp [results, Tryd.results42, go_sem]) rfl ⟨rfl, ⟨_, H6.out⟩, K6.out⟩

end Go.Proofs.YtgelggdgbmldiaaDoor
