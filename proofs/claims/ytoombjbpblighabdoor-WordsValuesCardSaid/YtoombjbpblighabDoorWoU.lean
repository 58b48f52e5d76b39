/-
  Layer 22: struct comparison, say and hear as one. Written by an AI agent.
-/
import Derived.Test.YtoombjbpblighabDoorWoS
import Derived.Test.YtoombjbpblighabDoorWoT
namespace Go.Proofs.YtoombjbpblighabDoor
open Go Go.RowKit Go.Shelf
set_option linter.unusedVariables false
set_option linter.unusedSimpArgs false
set_option maxRecDepth 100000

theorem eq23 (a b : Int) (s : ByteArray) (a' b' : Int) (s' : ByteArray) (d : Nat) (w : World) : (Op.equalIn (d + 2) 23 (.agg #[.int .i64 a, .int .i64 b, .string s]) (.agg #[.int .i64 a', .int .i64 b', .string s'])).run Tryd.prog w = .ok (a == a' && (b == b' && (s.toList == s'.toList))) w := by
  have hS : Tryd.prog.underlying 23 = some (.struct (Tryd.prog.fieldsOf 23)) := by kernel_rfl
  have hp : Tryd.prog.stoodInHeld 23 = false := by kernel_rfl
  rw [show d + 2 = d + 1 + 1 from rfl, run_equalIn_agg w (d + 1) 23 _ _ hS hp]
  simp only [Program.fieldsOf, Tryd.underlying23]
  go_simp
  cases h1 : (a == a') <;> cases h2 : (b == b') <;> cases h3 : (s.toList == s'.toList) <;> simp_all
theorem ofL_beq (x y : List UInt8) : ((ofL x).toList == (ofL y).toList) = (x == y) := by
  rw [Lib.toList_data, Lib.toList_data, ofL_list, ofL_list]
theorem eq25 (x y : Cm) (w : World) : (Op.equalIn 10000 25 (cmdV x) (cmdV y)).run Tryd.prog w = .ok (x.eqB y) w := by
  obtain ⟨v, a, b, n, ⟨ty, vn, vs⟩⟩ := x
  obtain ⟨v', a', b', n', ⟨ty', vn', vs'⟩⟩ := y
  have hS : Tryd.prog.underlying 25 = some (.struct (Tryd.prog.fieldsOf 25)) := by kernel_rfl
  have hp : Tryd.prog.stoodInHeld 25 = false := by kernel_rfl
  have h23 := fun w => eq23 ty vn (ofL vs) ty' vn' (ofL vs') 9997 w
  rw [ofL_beq] at h23
  have b1 := ofL_beq v v'
  have b2 := ofL_beq a a'
  have b3 := ofL_beq b b'
  unfold cmdV Cm.eqB V3.eqB
  rw [show (10000 : Nat) = 9999 + 1 from rfl, run_equalIn_agg w 9999 25 _ _ hS hp]
  simp only [Program.fieldsOf, Tryd.underlying25]
  go_simp
  by_cases h1 : v = v' <;> by_cases h2 : a = a' <;> by_cases h3 : b = b' <;> by_cases h4 : n = n' <;> by_cases h5 : ty = ty' <;> by_cases h6 : vn = vn' <;> by_cases h7 : vs = vs' <;> simp [h1, h2, h3, h4, h5, h6, h7, b1, b2, b3]
theorem neq25 (x y : Cm) (w : World) : (binOp .neq 25 (cmdV x) (cmdV y)).run Tryd.prog w = .ok (.bool (!x.eqB y)) w := by
  have h := run_neq_struct (P := Tryd.prog) w 25 #[.string (ofL x.verb), .string (ofL x.a), .string (ofL x.b), .int .i64 x.n, .int .i64 x.v.ty, .int .i64 x.v.n, .string (ofL x.v.s)] #[.string (ofL y.verb), .string (ofL y.a), .string (ofL y.b), .int .i64 y.n, .int .i64 y.v.ty, .int .i64 y.v.n, .string (ofL y.v.s)]
  change _ at h
  rw [show (Value.agg #[.string (ofL x.verb), .string (ofL x.a), .string (ofL x.b), .int .i64 x.n, .int .i64 x.v.ty, .int .i64 x.v.n, .string (ofL x.v.s)]) = cmdV x from rfl, show (Value.agg #[.string (ofL y.verb), .string (ofL y.a), .string (ofL y.b), .int .i64 y.n, .int .i64 y.v.ty, .int .i64 y.v.n, .string (ofL y.v.s)]) = cmdV y from rfl, eq25] at h
  exact h
theorem eql25 (x y : Cm) (w : World) : (binOp .eql 25 (cmdV x) (cmdV y)).run Tryd.prog w = .ok (.bool (x.eqB y)) w := by
  have h := run_eql_struct (P := Tryd.prog) w 25 #[.string (ofL x.verb), .string (ofL x.a), .string (ofL x.b), .int .i64 x.n, .int .i64 x.v.ty, .int .i64 x.v.n, .string (ofL x.v.s)] #[.string (ofL y.verb), .string (ofL y.a), .string (ofL y.b), .int .i64 y.n, .int .i64 y.v.ty, .int .i64 y.v.n, .string (ofL y.v.s)]
  rw [show (Value.agg #[.string (ofL x.verb), .string (ofL x.a), .string (ofL x.b), .int .i64 x.n, .int .i64 x.v.ty, .int .i64 x.v.n, .string (ofL x.v.s)]) = cmdV x from rfl, show (Value.agg #[.string (ofL y.verb), .string (ofL y.a), .string (ofL y.b), .int .i64 y.n, .int .i64 y.v.ty, .int .i64 y.v.n, .string (ofL y.v.s)]) = cmdV y from rfl, eq25] at h
  exact h
theorem guard25 : Tryd.prog.eqGuardType Tryd.prog.depth 25 = false := by kernel_rfl

/-- A row of words, by its base. -/
def PartsB (w : World) (B : Option Addr) (ks : List Nat) : Prop := 0 < ks.length → ∃ q : Nat, B = some ⟨q, 0, none⟩ ∧ q < w.heap.size ∧ ∀ i, i < ks.length → w.cell? ⟨q, i * 2, none⟩ = some (.func (.func (sayF (ks.getD i 0))) #[] #[]) ∧ w.cell? ⟨q, i * 2 + 1, none⟩ = some (.func (.func (hearF (ks.getD i 0))) #[] #[])
theorem parts_base {w : World} {v : Value} {ks : List Nat} (h : PartsAt w v ks) : ∃ B, v = .slice B ks.length ks.length ∧ PartsB w B ks := by
  rcases h with ⟨rfl, rfl⟩ | ⟨q, rfl, h1, h2⟩
  · exact ⟨none, rfl, fun h => absurd h (by simp)⟩
  · exact ⟨some ⟨q, 0, none⟩, rfl, fun _ => ⟨q, rfl, h1, h2⟩⟩
theorem kinds_small {l : List UInt8} {ks : List Nat} (h : kindsN l = some ks) : ks.length ≤ 3 ∧ ∀ k ∈ ks, k ≤ 3 := by
  rcases kinds_cases h with rfl | rfl | rfl | rfl | rfl | rfl | rfl | rfl | rfl | rfl | rfl | rfl | rfl | rfl | rfl | rfl | rfl <;> (cases h; decide)
def SayE (k : Nat) (m : Cm) (w : World) (e : Ending) (w' : World) : Prop := e = .returned (.tuple #[.string (ofL (sayN k m).1), .bool (sayN k m).2]) ∧ Keeps (fun _ => False) w w'
def HearE (k : Nat) (s : List UInt8) (p : Nat) (m : Cm) (w : World) (e : Ending) (w' : World) : Prop := e = .returned (.tuple #[]) ∧ CmdAt w' p (hearN k s m) ∧ Keeps (fun q => q = p) w w'
theorem say_any (k : Nat) (m : Cm) (hm : SzC m) (w : World) (hw : WordW w) : Calls Tryd.prog (sayF k) #[cmdV m] w (SayE k m w) := by
  match k with
  | 0 => exact say13 m hm w
  | 1 => exact say16 m hm w
  | 2 => exact say18 m hm w hw
  | k + 3 => exact say22 m hm w hw
theorem set_frozen (w : World) (a b : Addr) (v : Value) : (w.setCell a v).frozen? b = w.frozen? b := by simp
theorem keep_set {w : World} (p i : Nat) (v : Value) : Keeps (fun q => q = p) w (w.setCell ⟨p, i, none⟩ v) := (Keeps.refl (fun q => q = p) w).setCell (p := ⟨p, i, none⟩) (fun _ => rfl) v
theorem keep_up {w w' : World} (p : Nat) (k : Keeps (fun _ => False) w w') : Keeps (fun q => q = p) w w' := (Keeps.refl (fun q => q = p) w).trans k (fun _ _ h => h.elim)
theorem hear_any (k : Nat) (s : List UInt8) (hs : s.length ≤ 100000) (p : Nat) (m : Cm) (w : World) (hw : WordW w) (hp : CmdAt w p m) : Calls Tryd.prog (hearF k) #[.pointer (some ⟨p, 0, none⟩), .string (ofL s)] w (HearE k s p m w) := by
  have hz : (ofL s).size ≤ 100000 := by rw [ofL_size]; exact hs
  match k with
  | 0 =>
    refine (hear15 (ofL s) p m w hp).mono ?_
    rintro e w' ⟨rfl, rfl⟩
    exact ⟨rfl, ⟨(cell_other w 1 0 _ (by simp)).trans hp.c0, by rw [World.cell?_setCell_same' _ _ _ (by rw [hp.c1]; rfl)]; rfl, (cell_other w 1 2 _ (by simp)).trans hp.c2, (cell_other w 1 3 _ (by simp)).trans hp.c3, (cell_other w 1 4 _ (by simp)).trans hp.c4, (cell_other w 1 5 _ (by simp)).trans hp.c5, (cell_other w 1 6 _ (by simp)).trans hp.c6, fun i hi => by rw [set_frozen]; exact hp.f i hi⟩, keep_set _ _ _⟩
  | 1 =>
    refine (hear17 (ofL s) p m w hp).mono ?_
    rintro e w' ⟨rfl, rfl⟩
    exact ⟨rfl, ⟨(cell_other w 2 0 _ (by simp)).trans hp.c0, (cell_other w 2 1 _ (by simp)).trans hp.c1, by rw [World.cell?_setCell_same' _ _ _ (by rw [hp.c2]; rfl)]; rfl, (cell_other w 2 3 _ (by simp)).trans hp.c3, (cell_other w 2 4 _ (by simp)).trans hp.c4, (cell_other w 2 5 _ (by simp)).trans hp.c5, (cell_other w 2 6 _ (by simp)).trans hp.c6, fun i hi => by rw [set_frozen]; exact hp.f i hi⟩, keep_set _ _ _⟩
  | 2 =>
    refine (hear20 (ofL s) hz p m w hw hp).mono ?_
    rintro e w' ⟨rfl, w1, k1, rfl⟩
    have h1 := hp.keep k1 (fun h => h)
    rw [ofL_list]
    exact ⟨rfl, ⟨(cell_other w1 3 0 _ (by simp)).trans h1.c0, (cell_other w1 3 1 _ (by simp)).trans h1.c1, (cell_other w1 3 2 _ (by simp)).trans h1.c2, by rw [World.cell?_setCell_same' _ _ _ (by rw [h1.c3]; rfl)]; rfl, (cell_other w1 3 4 _ (by simp)).trans h1.c4, (cell_other w1 3 5 _ (by simp)).trans h1.c5, (cell_other w1 3 6 _ (by simp)).trans h1.c6, fun i hi => by rw [set_frozen]; exact h1.f i hi⟩, (keep_up p k1).trans (keep_set p 3 _) (fun _ _ h => h)⟩
  | k + 3 =>
    refine (hear25 (ofL s) hz p m w hw hp).mono ?_
    rintro e w' ⟨rfl, w1, k1, rfl⟩
    have h1 := hp.keep k1 (fun h => h)
    rw [ofL_list]
    have g : ∀ i v4 v5 v6, i < 4 → ((((w1.setCell ⟨p, 4, none⟩ v4).setCell ⟨p, 5, none⟩ v5).setCell ⟨p, 6, none⟩ v6).cell? ⟨p, i, none⟩) = w1.cell? ⟨p, i, none⟩ := fun i v4 v5 v6 hi => (cell_other _ 6 i _ (by omega)).trans ((cell_other _ 5 i _ (by omega)).trans (cell_other _ 4 i _ (by omega)))
    have s4 : ∀ v, (w1.setCell ⟨p, 4, none⟩ v).cell? ⟨p, 4, none⟩ = some v := fun v => World.cell?_setCell_same' _ _ _ (by rw [h1.c4]; rfl)
    have s5 : ∀ v v', ((w1.setCell ⟨p, 4, none⟩ v).setCell ⟨p, 5, none⟩ v').cell? ⟨p, 5, none⟩ = some v' := fun v v' => World.cell?_setCell_same' _ _ _ (by rw [cell_other _ 4 5 _ (by simp), h1.c5]; rfl)
    have s6 : ∀ v v' v'', (((w1.setCell ⟨p, 4, none⟩ v).setCell ⟨p, 5, none⟩ v').setCell ⟨p, 6, none⟩ v'').cell? ⟨p, 6, none⟩ = some v'' := fun v v' v'' => World.cell?_setCell_same' _ _ _ (by rw [cell_other _ 5 6 _ (by simp), cell_other _ 4 6 _ (by simp), h1.c6]; rfl)
    exact ⟨rfl, ⟨(g 0 _ _ _ (by omega)).trans h1.c0, (g 1 _ _ _ (by omega)).trans h1.c1, (g 2 _ _ _ (by omega)).trans h1.c2, (g 3 _ _ _ (by omega)).trans h1.c3, (cell_other _ 6 4 _ (by simp)).trans ((cell_other _ 5 4 _ (by simp)).trans (s4 _)), (cell_other _ 6 5 _ (by simp)).trans (s5 _ _), s6 _ _ _, fun i hi => by rw [set_frozen, set_frozen, set_frozen]; exact h1.f i hi⟩, (((keep_up p k1).trans (keep_set p 4 _) (fun _ _ h => h)).trans (keep_set p 5 _) (fun _ _ h => h)).trans (keep_set p 6 _) (fun _ _ h => h)⟩
end Go.Proofs.YtoombjbpblighabDoor
