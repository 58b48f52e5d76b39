/-
  Layer 1: what All tells, case by case; the document's example; short. Written by an AI agent.
-/
import Derived.Test.YtgelggdgbmldiaaDoorLxN
namespace Go.Proofs.YtgelggdgbmldiaaDoor
open Go.RowKit Go.Shelf
set_option linter.unusedVariables false
set_option linter.unusedSimpArgs false

/-- What lies at a slice's cells: tokens. -/
def RdT (w : World) (A : Option Addr) (L : List Tok) : Prop := 0 < L.length → ∃ b off, A = some ⟨b, off, none⟩ ∧ ∀ k, k < L.length →
  w.cell? ⟨b, off + k * 3, none⟩ = some (.int .i64 ((L.getD k default).k : Int)) ∧ w.cell? ⟨b, off + k * 3 + 1, none⟩ = some (.string (ofL (L.getD k default).x)) ∧ w.cell? ⟨b, off + k * 3 + 2, none⟩ = some (.int .i64 ((L.getD k default).p : Int))
theorem RdT.keep {w w' : World} {A : Option Addr} {L : List Tok} (h : RdT w A L) (hk : Keeps (fun _ => False) w w') : RdT w' A L := fun h0 => by
  obtain ⟨b, off, e, hc⟩ := h h0
  have hb : b < w.heap.size := cell_ltk (hc 0 h0).1
  refine ⟨b, off, e, fun k hk2 => ?_⟩
  obtain ⟨c0, c1, c2⟩ := hc k hk2
  exact ⟨(hk.cell hb (fun h => h)).trans c0, (hk.cell hb (fun h => h)).trans c1, (hk.cell hb (fun h => h)).trans c2⟩
theorem own_rdT {w : World} {A : Option Addr} {c n : Nat} {L : List Tok} (h : w.ownsRow 0 54 3 (.slice A n c) n (flatT L)) (hn : n = L.length) : RdT w A L := fun h0 => by
  rcases h.2 with ⟨_, h1⟩ | ⟨g, cap, cur, e1, _⟩
  · omega
  · simp only [Value.slice.injEq] at e1
    obtain ⟨rfl, _, rfl⟩ := e1
    refine ⟨g, 0, rfl, fun k hk => ?_⟩
    obtain ⟨f0, f1, f2⟩ := flatT_at L k hk
    rw [Nat.zero_add]
    exact ⟨(h.cellAt _ (by omega)).trans f0, (h.cellAt _ (by omega)).trans f1, (h.cellAt _ (by omega)).trans f2⟩
theorem RdT.cellsAt {w : World} {A : Option Addr} {L : List Tok} (h : RdT w A L) {i : Nat} (hi : i < L.length) : ∃ b off, A = some ⟨b, off, none⟩ ∧ ∀ wq, Keeps (fun _ => False) w wq →
    wq.cell? ⟨b, off + i * 3, none⟩ = some (.int .i64 ((L.getD i default).k : Int)) ∧ wq.cell? ⟨b, off + i * 3 + 1, none⟩ = some (.string (ofL (L.getD i default).x)) ∧ wq.cell? ⟨b, off + i * 3 + 2, none⟩ = some (.int .i64 ((L.getD i default).p : Int)) := by
  obtain ⟨b, off, e, hc⟩ := h (by omega)
  obtain ⟨c0, c1, c2⟩ := hc i hi
  have hb := cell_ltk c0
  exact ⟨b, off, e, fun wq k => ⟨(k.cell hb (fun h => h)).trans c0, (k.cell hb (fun h => h)).trans c1, (k.cell hb (fun h => h)).trans c2⟩⟩

theorem all_ok (s : ByteArray) (hs : s.size ≤ 600) (ts : List Tok) (h : lexL s.data.toList 0 = (ts, none)) (w : World) (he : ErrW w) :
    Calls Tryd.prog 24 #[.string s] w fun e w' => ∃ A c, e = .returned (.tuple #[.slice A ts.length c, .int .i64 0, .int .i64 0]) ∧ RdT w' A ts ∧ Keeps (fun _ => False) w w' :=
  (all_any s (by omega) w he).mono fun e w' ⟨h1, hk⟩ => by
    rw [if_neg (by rw [len_size]; omega), show (lexL s.data.toList 0).2 = none by rw [h]] at h1
    obtain ⟨A, c, e1, o, _⟩ := (h1 : ∃ A c, e = .returned (.tuple #[.slice A (lexL s.data.toList 0).1.length c, .int .i64 0, .int .i64 0]) ∧ NewT (lexL s.data.toList 0).1 w A c w')
    rw [show (lexL s.data.toList 0).1 = ts by rw [h]] at e1 o
    exact ⟨A, c, e1, own_rdT o rfl, hk⟩
theorem all_bad (s : ByteArray) (hs : s.size ≤ 600) (q er : Nat) (h : (lexL s.data.toList 0).2 = some (q, er)) (w : World) (he : ErrW w) :
    Calls Tryd.prog 24 #[.string s] w fun e w' => e = .returned (.tuple #[.slice none 0 0, .int .i64 (q : Int), .int .i64 (er : Int)]) ∧ Keeps (fun _ => False) w w' :=
  (all_any s (by omega) w he).mono fun e w' ⟨h1, hk⟩ => by
    rw [if_neg (by rw [len_size]; omega), h] at h1
    exact ⟨h1, hk⟩
theorem all_big (s : ByteArray) (hb : 600 < s.size) (hs : s.size ≤ 1000) (w : World) (he : ErrW w) :
    Calls Tryd.prog 24 #[.string s] w fun e w' => e = .returned (.tuple #[.slice none 0 0, .int .i64 0, .int .i64 4]) ∧ Keeps (fun _ => False) w w' :=
  (all_any s hs w he).mono fun e w' ⟨h1, hk⟩ => by
    rw [if_pos (by rw [len_size]; exact hb)] at h1
    exact ⟨h1, hk⟩

theorem eq33 (a b : Int) (s : ByteArray) (a' b' : Int) (s' : ByteArray) (w : World) : (Op.equalIn 10000 54 (.agg #[.int .i64 a, .string s, .int .i64 b]) (.agg #[.int .i64 a', .string s', .int .i64 b'])).run Tryd.prog w = .ok (a == a' && (s.toList == s'.toList && (b == b'))) w := by
  have hS : Tryd.prog.underlying 54 = some (.struct (Tryd.prog.fieldsOf 54)) := by kernel_rfl
  have hp : Tryd.prog.stoodInHeld 54 = false := by kernel_rfl
  rw [show (10000 : Nat) = 9999 + 1 from rfl, run_equalIn_agg w 9999 54 _ _ hS hp]
  simp only [Program.fieldsOf, Tryd.underlying54]
  go_simp
  cases h1 : (a == a') <;> cases h2 : (b == b') <;> cases h3 : (s.toList == s'.toList) <;> simp_all
theorem guard33 : Tryd.prog.eqGuardType Tryd.prog.depth 54 = false := by kernel_rfl
theorem eql33 (a b : Int) (s : ByteArray) (a' b' : Int) (s' : ByteArray) (w : World) : (binOp .eql 54 (.agg #[.int .i64 a, .string s, .int .i64 b]) (.agg #[.int .i64 a', .string s', .int .i64 b'])).run Tryd.prog w = .ok (.bool (a == a' && (s.toList == s'.toList && (b == b')))) w := by
  have h := run_eql_struct (P := Tryd.prog) w 54 #[.int .i64 a, .string s, .int .i64 b] #[.int .i64 a', .string s', .int .i64 b']
  rw [eq33] at h
  exact h
theorem neq33 (a b : Int) (s : ByteArray) (a' b' : Int) (s' : ByteArray) (w : World) : (binOp .neq 54 (.agg #[.int .i64 a, .string s, .int .i64 b]) (.agg #[.int .i64 a', .string s', .int .i64 b'])).run Tryd.prog w = .ok (.bool (!(a == a' && (s.toList == s'.toList && (b == b'))))) w := by
  have h := run_neq_struct (P := Tryd.prog) w 54 #[.int .i64 a, .string s, .int .i64 b] #[.int .i64 a', .string s', .int .i64 b']
  rw [eq33] at h
  exact h

end Go.Proofs.YtgelggdgbmldiaaDoor
