/-
 Layer 2: calls, and types by their words. Written by an AI agent.
 Layer 2: rows of numbers that go below a node; a node by its contract. Written by an AI agent.
 Layer 2: inside, variable, ended. Written by an AI agent.
-/
import Derived.Test.YtbhpnioggpgbhaaGreatDoorMcak
namespace Go.Proofs.YtbhpnioggpgbhaaGreatDoor
open Go Go.RowKit Go.Shelf
set_option linter.unusedVariables false
set_option linter.unusedSimpArgs false
set_option maxRecDepth 100000 in
set_option maxHeartbeats 8000000 in
theorem type_any (x : ByteArray) (w : World) : Calls Tryz.prog 93 #[.string x] w fun e w' => e = .returned (.int .i64 (typeN x.data.toList)) ∧ w' = w := by
 have key : ∀ (b1 b2 b3 b4 : Bool), b1 = decide (x.data.toList = [105, 110, 116]) → b2 = decide (x.data.toList = [98, 111, 111, 108]) → b3 = decide (x.data.toList = [116, 101, 120, 116]) → b4 = decide (x.data.toList = [108, 105, 115, 116]) → typeN x.data.toList = (if b1 then 1 else if b2 then 2 else if b3 then 3 else if b4 then 4 else 0) := by
  rintro _ _ _ _ rfl rfl rfl rfl
  unfold typeN
  simp only [decide_eq_true_eq]
 obtain ⟨b1, e1⟩ : ∃ b, b = decide (x.data.toList = [105, 110, 116]) := ⟨_, rfl⟩
 obtain ⟨b2, e2⟩ : ∃ b, b = decide (x.data.toList = [98, 111, 111, 108]) := ⟨_, rfl⟩
 obtain ⟨b3, e3⟩ : ∃ b, b = decide (x.data.toList = [116, 101, 120, 116]) := ⟨_, rfl⟩
 obtain ⟨b4, e4⟩ : ∃ b, b = decide (x.data.toList = [108, 105, 115, 116]) := ⟨_, rfl⟩
 rw [key b1 b2 b3 b4 e1 e2 e3 e4]
 have q1 : (x.toList == [105, 110, 116]) = b1 := by rw [e1]; exact word_beq x _
 have q2 : (x.toList == [98, 111, 111, 108]) = b2 := by rw [e2]; exact word_beq x _
 have q3 : (x.toList == [116, 101, 120, 116]) = b3 := by rw [e3]; exact word_beq x _
 have q4 : (x.toList == [108, 105, 115, 116]) = b4 := by rw [e4]; exact word_beq x _
 clear key e1 e2 e3 e4
 cases b1 with
 | true =>
  go_enter Tryz.func93, Tryz.ntmps93
  go_wp2
  go_ret
  exact ⟨rfl, rfl⟩
 | false =>
  cases b2 with
  | true =>
   go_enter Tryz.func93, Tryz.ntmps93
   go_wp2
   go_ret
   exact ⟨rfl, rfl⟩
  | false =>
   cases b3 with
   | true =>
    go_enter Tryz.func93, Tryz.ntmps93
    go_wp2
    go_ret
    exact ⟨rfl, rfl⟩
   | false =>
    cases b4 with
    | true =>
     go_enter Tryz.func93, Tryz.ntmps93
     go_wp2
     go_ret
     exact ⟨rfl, rfl⟩
    | false =>
     go_enter Tryz.func93, Tryz.ntmps93
     go_wp2
     go_ret
     exact ⟨rfl, rfl⟩
set_option maxRecDepth 100000 in
set_option maxHeartbeats 8000000 in
theorem calls_any {P : Nat} {src : ByteArray} {T : List Tok} {R : Nat → Prop} {s : PS} {w : World} (h : Par w P src T R s) : Calls Tryz.prog 120 #[.pointer (some ⟨P, 0, none⟩)] w fun e w' => e = .returned (.bool (callsS T s)) ∧ Keeps (fun _ => False) w w' := by
 have H := Lib.hid h
 have NC := Lib.hid (now_at h (t := tokA T s) rfl)
 obtain ⟨k, hk⟩ : ∃ k : Int, k = ((tokA T s).k : Int) := ⟨_, rfl⟩
 have F0 : ∀ w, Sem.run Tryz.prog (Instr.field 77 (.agg #[.int .i64 k, .string (ofL (tokA T s).x), .int .i64 ((tokA T s).p : Int)]) 0) w = .ok (.int .i64 k) w := fun w => tok_field0 _ _ _ w
 rw [← hk] at NC
 by_cases h3 : k = 3
 ·have hk3 : (tokA T s).k = 3 := by omega
  have hmore := h.more (by rw [hk3]; decide)
  have hE : callsS T s = (decide (((T.getD (s.i + 1) default).k : Int) = 5) && decide ((T.getD (s.i + 1) default).x = [40])) := by
   unfold callsS
   rw [decide_eq_true hk3, Bool.true_and]
   congr 1
   exact decide_eq_decide.2 (by omega)
  rw [hE]
  have hle := h.ok.le
  obtain ⟨A, cT, v, L, h⟩ := h
  have hP := h.lo
  obtain ⟨b, off, rfl, hc⟩ := h.tok (by omega)
  obtain ⟨t0, t1, t2⟩ := hc (s.i + 1) (by omega)
  have c1 := h.c1
  have c2 := h.c2
  obtain ⟨n, hn⟩ : ∃ n, n = T.length := ⟨_, rfl⟩
  rw [← hn] at c1 hmore hle
  generalize ((T.getD (s.i + 1) default).k : Int) = tk at t0 ⊢
  generalize (T.getD (s.i + 1) default).x = tx at t1 ⊢
  generalize ((T.getD (s.i + 1) default).p : Int) = tp at t2
  generalize tokA T s = tz at NC F0
  generalize s.i = i at c2 t0 t1 t2 hmore
  have i1 : IntKind.i64.wrap ((i : Int) + 1) = (i : Int) + 1 := IntWalk.i64_in _ (by omega)
  have h0 : (0 : Int) ≤ (i : Int) + 1 := by omega
  have h1 : (i : Int) + 1 < (n : Int) := by omega
  have h2 : ((i : Int) + 1).toNat = i + 1 := by omega
  have hne : (k != 3) = false := by rw [h3]; rfl
  have qx : ((ofL tx).toList == [40]) = decide (tx = [40]) := by rw [word_beq, ofL_list]
  obtain ⟨bx, hbx⟩ : ∃ bx, bx = decide (tx = [40]) := ⟨_, rfl⟩
  rw [← hbx] at qx ⊢
  have hb := cell_ltk t0
  have C := Lib.hid (And.intro c1 (And.intro c2 (And.intro t0 (And.intro t1 t2))))
  clear hE hk3 hk h3 h hc H hn c1 c2 t0 t1 t2 hbx
  go_enter Tryz.func120, Tryz.ntmps120
  go_wp2_with fail
  refine NC.out.mono ?_
  rintro e w1 ⟨rfl, k1⟩
  obtain ⟨c1, c2, t0, t1, t2⟩ := C.out
  have c1 := (k1.cell hP (fun h => h)).trans c1
  have c2 := (k1.cell hP (fun h => h)).trans c2
  have t0 := (k1.cell hb (fun h => h)).trans t0
  have t1 := (k1.cell hb (fun h => h)).trans t1
  have t2 := (k1.cell hb (fun h => h)).trans t2
  have K1 := Lib.hid k1
  have ka := Keeps.one w1 (.cells #[.int .i64 0, .string { data := #[] }, .int .i64 0] 77)
  have d1 := (ka.cell (cell_ltk c1) (fun h => h)).trans c1
  have d2 := (ka.cell (cell_ltk c2) (fun h => h)).trans c2
  have u0 := (ka.cell (cell_ltk t0) (fun h => h)).trans t0
  have u1 := (ka.cell (cell_ltk t1) (fun h => h)).trans t1
  have u2 := (ka.cell (cell_ltk t2) (fun h => h)).trans t2
  clear k1 NC C ka
  go_wp2_with fail
  go_region
  have K2 : Hid (Keeps (fun _ => False) w ((w1.alloc (.cells #[.int .i64 tk, .string (ofL tx), .int .i64 tp] 77)).drew)) := Lib.hid (K1.out.alloc _).drew
  have z := Loc.new (w := w1) (R := fun _ => False) (fun h => h) [.int .i64 tk, .string (ofL tx), .int .i64 tp] 77
  obtain ⟨X, hX⟩ : ∃ X, X = w1.heap.size := ⟨_, rfl⟩
  obtain ⟨w2, hw2⟩ : ∃ w2, w2 = (w1.alloc (.cells #[.int .i64 tk, .string (ofL tx), .int .i64 tp] 77)).drew := ⟨_, rfl⟩
  have z0 : w2.cell? ⟨X, 0, none⟩ = some (.int .i64 tk) := by rw [hw2, hX]; exact z.cells 0 _ rfl
  have z1 : w2.cell? ⟨X, 1, none⟩ = some (.string (ofL tx)) := by rw [hw2, hX]; exact z.cells 1 _ rfl
  rw [← hX]
  rw [← hw2] at K2 ⊢
  clear hw2 hX z K1 c1 c2 t0 t1 t2 d1 d2 u0 u1 u2
  by_cases h5 : tk = 5
  ·rw [h5] at z0
   have DD : Hid (decide (tk = 5) = true) := Lib.hid (decide_eq_true h5)
   clear h5
   go_wp2_with fail
   go_ret
   exact ⟨by rw [DD.out]; rfl, K2.out⟩
  ·have DD : Hid (decide (tk = 5) = false) := Lib.hid (decide_eq_false h5)
   have d5 : (tk == 5) = false := by simpa using h5
   clear h5
   go_wp2_with fail
   go_ret
   exact ⟨by rw [DD.out]; rfl, K2.out⟩
 ·have hk3 : ¬ (tokA T s).k = 3 := by omega
  have hE : callsS T s = false := by unfold callsS; rw [decide_eq_false hk3]; rfl
  rw [hE]
  have hne : (k != 3) = true := by simpa using h3
  generalize tokA T s = tz at NC F0
  clear hE hk3 hk h H h3
  go_enter Tryz.func120, Tryz.ntmps120
  go_wp2_with fail
  refine NC.out.mono ?_
  rintro e w1 ⟨rfl, k1⟩
  have K1 := Lib.hid k1
  clear k1 NC
  go_wp2_with fail
  go_ret
  exact ⟨rfl, K1.out⟩
end Go.Proofs.YtbhpnioggpgbhaaGreatDoor

namespace Go.Proofs.YtbhpnioggpgbhaaGreatDoor
open Go Go.RowKit Go.Shelf
set_option linter.unusedVariables false
set_option linter.unusedSimpArgs false
def valI (l : List Int) : List Value := l.map (fun x => .int .i64 x)
theorem valI_append (l m : List Int) : valI (l ++ m) = valI l ++ valI m := by simp [valI]
theorem valI_at (l : List Int) (k : Nat) (h : k < l.length) : (valI l)[k]? = some (.int .i64 (l.getD k 0)) := by
 unfold valI
 rw [List.getElem?_map, List.getElem?_eq_getElem h]
 simp [List.getD, List.getElem?_eq_getElem h]
theorem valI_one (l : List Int) : ∀ u ∈ valI l, u.oneCell' = true := by
 intro u hu
 obtain ⟨x, _, rfl⟩ := List.mem_map.1 hu
 rfl
theorem info_int : (Tryz.prog.info? 3).map (fun i => (i.zero, i.size, i.bytes)) = some (some (.int .i64 0), 1, 8) := by kernel_rfl
theorem own_rdI {w : World} {A : Option Addr} {n c : Nat} {l : List Int} (h : w.ownsRow 0 3 1 (.slice A n c) n (valI l)) (hn : n = l.length) : RdI w A l := fun h0 => by
 rcases h.2 with ⟨e1, h1⟩ | ⟨g, cap, cur, e1, _⟩
 ·omega
 ·have e2 : A = some ⟨g, 0, none⟩ := by injection e1
  subst e2
  refine ⟨g, 0, rfl, fun k hk => ?_⟩
  rw [Nat.zero_add]
  exact (h.cellAt k (by omega)).trans (valI_at l k hk)
theorem newsI {w : World} (z : Int) (t : TypeId) : ∀ j u, (valI [z])[j]? = some u → (w.alloc (.cells #[.int .i64 z] t)).cell? ((⟨w.heap.size, 0, none⟩ : Addr).add j) = some u := by
 intro j u h
 have e : (⟨w.heap.size, 0, none⟩ : Addr).add j = ⟨w.heap.size, j, none⟩ := by unfold Addr.add; split <;> simp_all
 rw [e, World.cell?_alloc_mark]
 match j, h with
 | 0, h => simpa [valI] using h
/-- What goes below a node: a row that is not the parser's. -/
def NewRow (P : Nat) (R : Nat → Prop) (a : Option Addr) (l : List Int) : Prop := 0 < l.length → ∃ X off, a = some ⟨X, off, none⟩ ∧ ¬ R X ∧ P < X
/-- The contract of a function that puts a node. -/
def NodeC (P : Nat) (src : ByteArray) (T : List Tok) (f : Nat) (mm : Nd → List Int → PM Int) : Prop :=
 ∀ (k ln n : Int) (x : List UInt8) (l : List Int) (s s' : PS) (r : Int) (R : Nat → Prop) (w : World) (a0 : Option Addr) (m0 c0 : Nat) (a : Option Addr) (c : Nat), mm ⟨k, ln, n, x, []⟩ l s = some (r, s') → Par w P src T R s → RdI w a l → NewRow P R a l → l.length ≤ c →
  Calls Tryz.prog f #[.pointer (some ⟨P, 0, none⟩), .agg #[.int .i64 k, .int .i64 ln, .int .i64 n, .string (ofL x), .slice a0 m0 c0], .slice a l.length c] w fun e w' => e = .returned (.int .i64 r) ∧ ∃ R', Par w' P src T R' s' ∧ Keeps R w w' ∧ ∀ b, b < w.heap.size → R' b → R b ∨ ∃ off, a = some ⟨b, off, none⟩
theorem nodeC (P : Nat) (src : ByteArray) (T : List Tok) : NodeC P src T 97 nodeM := by
 intro k ln n x l s s' r R w a0 m0 c0 a c hm hp hr hn hcap
 obtain ⟨h1, rfl, rfl⟩ := node_out hm
 by_cases h0 : 0 < l.length
 ·obtain ⟨X, off, e1, hX, hPX⟩ := hn h0
  refine (node_any hp ⟨k, ln, n, x, []⟩ a0 m0 c0 a c l hcap hr X (fun _ => ⟨off, e1⟩) hX hPX h1).mono fun e w' ⟨h1, R', h2, h3, h4⟩ => ⟨h1, R', h2, h3, fun b hb hr => (h4 b hb hr).imp id fun e2 => ⟨off, by rw [e2]; exact e1⟩⟩
 ·refine (node_any hp ⟨k, ln, n, x, []⟩ a0 m0 c0 a c l hcap hr w.heap.size (fun h => absurd h h0) hp.new hp.lo h1).mono fun e w' ⟨h1, R', h2, h3, h4⟩ => ⟨h1, R', h2, h3, fun b hb hr => (h4 b hb hr).imp id fun e => by omega⟩
section
variable {P : Nat} {src : ByteArray} {T : List Tok} {f : Nat} {mm : Nd → List Int → PM Int} {R : Nat → Prop} {s s' : PS} {w : World} {r : Int}
theorem NodeC.nil (h : NodeC P src T f mm) (hp : Par w P src T R s) (k ln n : Int) (x : List UInt8) (hm : mm ⟨k, ln, n, x, []⟩ [] s = some (r, s')) :
  Calls Tryz.prog f #[.pointer (some ⟨P, 0, none⟩), .agg #[.int .i64 k, .int .i64 ln, .int .i64 n, .string (ofL x), .slice none 0 0], .slice none 0 0] w (Post P src T R w (.int .i64 r) s') :=
 (h k ln n x [] s s' r R w none 0 0 none 0 hm hp (fun h => absurd h (by simp)) (fun h => absurd h (by simp)) (Nat.le_refl 0)).mono fun e w' ⟨h1, R', h2, h3, h4⟩ => ⟨h1, R', h2, h3, fun b hb hr => (h4 b hb hr).elim id (fun ⟨off, e⟩ => by cases e)⟩
theorem NodeC.fresh (h : NodeC P src T f mm) (hp : Par w P src T R s) (k ln n : Int) (x : List UInt8) (l : List Int) (o : Obj) (m : Nat) (hl : m = l.length) (hr : RdI (w.alloc o) (some ⟨w.heap.size, 0, none⟩) l) (hm : mm ⟨k, ln, n, x, []⟩ l s = some (r, s')) :
  Calls Tryz.prog f #[.pointer (some ⟨P, 0, none⟩), .agg #[.int .i64 k, .int .i64 ln, .int .i64 n, .string (ofL x), .slice none 0 0], .slice (some ⟨w.heap.size, 0, none⟩) m m] (w.alloc o) (Post P src T R w (.int .i64 r) s') := by
 subst hl
 refine (h k ln n x l s s' r R (w.alloc o) none 0 0 (some ⟨w.heap.size, 0, none⟩) l.length hm (hp.keep (Keeps.one w o)) hr (fun _ => ⟨w.heap.size, 0, rfl, hp.new, hp.lo⟩) (Nat.le_refl _)).mono fun e w' ⟨h1, R', h2, h3, h4⟩ => ⟨h1, R', h2, ?_, fun b hb hr => ?_⟩
 ·exact ((Keeps.one w o).mono (T := R) (fun _ _ h => h.elim)).trans h3 (fun _ _ h => h)
 ·rcases h4 b (by rw [World.size_alloc]; omega) hr with h5 | ⟨off, e⟩
  ·exact h5
  ·cases e
   exact absurd hb (Nat.lt_irrefl _)
theorem NodeC.one (h : NodeC P src T f mm) (hp : Par w P src T R s) (k ln n : Int) (x : List UInt8) (a : Int) (hm : mm ⟨k, ln, n, x, []⟩ [a] s = some (r, s')) :
  Calls Tryz.prog f #[.pointer (some ⟨P, 0, none⟩), .agg #[.int .i64 k, .int .i64 ln, .int .i64 n, .string (ofL x), .slice none 0 0], .slice (some ⟨w.heap.size, 0, none⟩) 1 1] (w.alloc (.cells #[.int .i64 a] 3)) (Post P src T R w (.int .i64 r) s') :=
 h.fresh hp k ln n x [a] _ 1 rfl (fun _ => ⟨w.heap.size, 0, rfl, fun j hj => by
  have : j = 0 := by simp at hj; omega
  subst this
  exact World.cell?_alloc_mark w #[.int .i64 a] 3 (0, 0) 0⟩) hm
theorem NodeC.two (h : NodeC P src T f mm) (hp : Par w P src T R s) (k ln n : Int) (x : List UInt8) (a b : Int) (hm : mm ⟨k, ln, n, x, []⟩ [a, b] s = some (r, s')) :
  Calls Tryz.prog f #[.pointer (some ⟨P, 0, none⟩), .agg #[.int .i64 k, .int .i64 ln, .int .i64 n, .string (ofL x), .slice none 0 0], .slice (some ⟨w.heap.size, 0, none⟩) 2 2] (w.alloc (.cells #[.int .i64 a, .int .i64 b] 3)) (Post P src T R w (.int .i64 r) s') :=
 h.fresh hp k ln n x [a, b] _ 2 rfl (fun _ => ⟨w.heap.size, 0, rfl, fun j hj => by
  rw [Nat.zero_add, World.cell?_alloc_mark w #[.int .i64 a, .int .i64 b] 3 (0, 0) j]
  match j, hj with
  | 0, _ => rfl
  | 1, _ => rfl⟩) hm
/-- A row that the caller made since its beginning, at w0. -/
theorem NodeC.row (h : NodeC P src T f mm) (hp : Par w P src T R s) (k ln n : Int) (x : List UInt8) (l : List Int) {A : Option Addr} {m c : Nat} (hl : m = l.length) (ho : w.ownsRow 0 3 1 (.slice A m c) m (valI l)) {R0 : Nat → Prop} {w0 : World} (hf : Fr R0 w0 R w) (hP0 : P < w0.heap.size)
  (hb : ∀ g, (Value.slice A m c).ownBlock = some g → ¬ R g ∧ w0.heap.size ≤ g) (hm : mm ⟨k, ln, n, x, []⟩ l s = some (r, s')) :
  Calls Tryz.prog f #[.pointer (some ⟨P, 0, none⟩), .agg #[.int .i64 k, .int .i64 ln, .int .i64 n, .string (ofL x), .slice none 0 0], .slice A m c] w (Post P src T R0 w0 (.int .i64 r) s') := by
 have hr := own_rdI ho hl
 subst hl
 have form : 0 < l.length → ∃ g, A = some ⟨g, 0, none⟩ ∧ (Value.slice A l.length c).ownBlock = some g := fun h0 => by
  rcases ho.2 with ⟨e1, h1⟩ | ⟨g, cap, cur, e1, _⟩
  ·omega
  ·have e2 : A = some ⟨g, 0, none⟩ := by injection e1
   exact ⟨g, e2, by rw [e2]; rfl⟩
 have hcap : l.length ≤ c := by
  rcases ho.2 with ⟨e1, h1⟩ | ⟨g, cap, cur, e1, h3, h4, h5, _⟩
  ·omega
  ·injection e1 with _ _ e2
   omega
 refine (h k ln n x l s s' r R w none 0 0 A c hm hp hr (fun h0 => ?_) hcap).mono fun e w' ⟨h1, R', h2, h3, h4⟩ => ⟨h1, R', h2, hf.1.trans h3 (fun x hx hr => hf.2 x hx hr), fun b hb2 hr2 => ?_⟩
 ·obtain ⟨g, e, eb⟩ := form h0
  exact ⟨g, 0, e, (hb g eb).1, Nat.lt_of_lt_of_le hP0 (hb g eb).2⟩
 ·rcases h4 b (Nat.lt_of_lt_of_le hb2 hf.1.size) hr2 with h5 | ⟨off, e⟩
  ·exact hf.2 b hb2 h5
  ·exfalso
   rcases ho.2 with ⟨e1, h1⟩ | ⟨g, cap, cur, e1, _⟩
   ·have e2 : A = none := by injection e1
    rw [e2] at e
    cases e
   ·have e2 : A = some ⟨g, 0, none⟩ := by injection e1
    have hg := (hb g (by rw [e2]; rfl)).2
    rw [e2] at e
    cases e
    omega
end
theorem own_keep {w w' : World} {R R' : Nat → Prop} {v : Value} {n : Nat} {xs : List Value} (h : w.ownsRow 0 3 1 v n xs) (f : Fr R w R' w') {B : Nat} (hb : ∀ g, v.ownBlock = some g → ¬ R g ∧ B ≤ g) :
  w'.ownsRow 0 3 1 v n xs ∧ ∀ g, v.ownBlock = some g → ¬ R' g ∧ B ≤ g :=
 ⟨ownsRow_keep h (fun g hg => f.1.block g (own_ltk h hg) (hb g hg).1), fun g hg => ⟨fun hr => (hb g hg).1 (f.2 g (own_ltk h hg) hr), (hb g hg).2⟩⟩
/-- A number more, behind what the caller made. -/
theorem own_more {w w1 w5 : World} {R R0 : Nat → Prop} {w0 : World} {P : Nat} {src : ByteArray} {T : List Tok} {s : PS} {v v5 : Value} (hp : Par w P src T R s) (hf : Fr R0 w0 R w) (hP0 : P < w0.heap.size) (hb : ∀ g, v.ownBlock = some g → ¬ R g ∧ w0.heap.size ≤ g) (k1 : Keeps (fun _ => False) w w1)
  (hg : w1.grownBy w5 v.ownBlock) (h5 : v5.ownBlock = v.ownBlock ∨ v5.ownBlock = some w1.heap.size) :
  Par w5 P src T R s ∧ Fr R0 w0 R w5 ∧ (∀ g, v5.ownBlock = some g → ¬ R g ∧ w0.heap.size ≤ g) ∧ Keeps (fun b => v.ownBlock = some b) w w5 := by
 have k15 : Keeps (fun b => v.ownBlock = some b) w1 w5 := ⟨hg.os, hg.tape, hg.output, hg.size, fun b hb hn => hg.block b hb (fun e => hn e.symm)⟩
 have k : Keeps (fun b => v.ownBlock = some b) w w5 := (k1.mono (T := fun b => v.ownBlock = some b) (fun _ _ h => h.elim)).trans k15 (fun _ _ h => h)
 refine ⟨hp.keepR k (fun b hr hv => (hb b hv).1 hr) (fun b hv => Nat.le_of_lt (Nat.lt_of_lt_of_le hP0 (hb b hv).2)), ⟨hf.1.trans (T := fun b => v.ownBlock = some b) k (fun x hx hv => absurd (hb x hv).2 (by omega)), hf.2⟩, fun g hg5 => ?_, k⟩
 rcases h5 with e | e
 ·rw [e] at hg5
  exact hb g hg5
 ·rw [e] at hg5
  cases hg5
  have h1 := k1.size
  have h2 := hf.1.size
  exact ⟨fun hr => by have := hp.lt _ hr; omega, by omega⟩
theorem Loc.keepsR {w w' : World} {R : Nat → Prop} {X : Nat} {vs : List Value} (h : Loc w R X vs) {S : Nat → Prop} (k : Keeps S w w') (hX : ¬ S X) : Loc w' R X vs :=
 ⟨Nat.lt_of_lt_of_le h.lt k.size, h.out, fun j u hu => (k.cell h.lt hX).trans (h.cells j u hu), fun j => (k.frozen h.lt hX).trans (h.fz j)⟩
end Go.Proofs.YtbhpnioggpgbhaaGreatDoor

namespace Go.Proofs.YtbhpnioggpgbhaaGreatDoor
open Go Go.RowKit Go.Shelf
set_option linter.unusedVariables false
set_option linter.unusedSimpArgs false
theorem pure_end {α : Type} {a r : α} {s s' : PS} (h : (pure a : PM α) s = some (r, s')) : r = a ∧ s' = s := by
 have := pure_out h
 injection this with h1 h2
 exact ⟨h1, h2⟩
theorem calls_at {P : Nat} {src : ByteArray} {T : List Tok} {R : Nat → Prop} {s : PS} {w : World} (h : Par w P src T R s) {b : Bool} (hb : b = callsS T s) :
  Calls Tryz.prog 120 #[.pointer (some ⟨P, 0, none⟩)] w fun e w' => e = .returned (.bool b) ∧ Keeps (fun _ => False) w w' := by
 rw [hb]
 exact calls_any h
set_option maxRecDepth 100000 in
set_option maxHeartbeats 16000000 in
theorem inside_any {P : Nat} {src : ByteArray} {T : List Tok} {ex : PM Int} (EX : ExC P src T 119 ex) (x y : ByteArray) (s : PS) (r : Int) (s' : PS) (R : Nat → Prop) (w : World) (h : insideM T ex x.data.toList y.data.toList s = some (r, s')) (hp : Par w P src T R s) :
  Calls Tryz.prog 165 #[.pointer (some ⟨P, 0, none⟩), .string x, .string y] w (Post P src T R w (.int .i64 r) s') := by
 have HP0 := Lib.hid hp
 have HF0 := Lib.hid (Fr.refl R w)
 have HLO := Lib.hid hp.lo
 have HM := Lib.hid h
 clear h hp
 go_enter Tryz.func165, Tryz.ntmps165
 obtain ⟨u, s1, hm, h⟩ := bind_out HM.out
 have NC := Lib.hid (open_any HP0.out (x) hm)
 replace HM := Lib.hid h
 clear h hm
 go_wp2_with fail
 refine NC.out.mono ?_
 rintro e w2 ⟨rfl, R3, hp, hf⟩
 have HP1 := Lib.hid hp
 have HF1 := Lib.hid (HF0.out.trans hf)
 clear HP0 HF0 hp hf NC 
 obtain ⟨a, s4, hm, h⟩ := bind_out HM.out
 have NC := Lib.hid (EX _ _ _ _ _ hm HP1.out)
 replace HM := Lib.hid h
 clear h hm
 go_wp2_with fail
 refine NC.out.mono ?_
 rintro e w5 ⟨rfl, R6, hp, hf⟩
 have HP2 := Lib.hid hp
 have HF2 := Lib.hid (HF1.out.trans hf)
 clear HP1 HF1 hp hf NC 
 obtain ⟨u, s7, hm, h⟩ := bind_out HM.out
 have NC := Lib.hid (shut_any HP2.out (y) hm)
 replace HM := Lib.hid h
 clear h hm
 go_wp2_with fail
 refine NC.out.mono ?_
 rintro e w8 ⟨rfl, R9, hp, hf⟩
 have HP3 := Lib.hid hp
 have HF3 := Lib.hid (HF2.out.trans hf)
 clear HP2 HF2 hp hf NC 
 obtain ⟨q1, q2⟩ := pure_end HM.out
 subst q1
 subst q2
 go_wp2_with fail
 go_ret
 exact ⟨rfl, _, HP3.out, HF3.out⟩
set_option maxRecDepth 100000 in
set_option maxHeartbeats 16000000 in
theorem variable_any {P : Nat} {src : ByteArray} {T : List Tok} {ex : PM Int} (EX : ExC P src T 119 ex) (ln : Int) (s : PS) (r : Int) (s' : PS) (R : Nat → Prop) (w : World) (h : variableM T ex ln s = some (r, s')) (hp : Par w P src T R s) :
  Calls Tryz.prog 166 #[.pointer (some ⟨P, 0, none⟩), .agg #[.int .i64 0, .int .i64 ln, .int .i64 0, .string (ofL []), .slice none 0 0]] w (Post P src T R w (.int .i64 r) s') := by
 have HP0 := Lib.hid hp
 have HF0 := Lib.hid (Fr.refl R w)
 have HLO := Lib.hid hp.lo
 have HM := Lib.hid h
 clear h hp
 go_enter Tryz.func166, Tryz.ntmps166
 go_upto_region 1 with fail
 have ka := Keeps.one w (.cells #[.int .i64 0, .int .i64 ln, .int .i64 0, .string (ofL []), .slice none 0 0] 41)
 obtain ⟨X, hX⟩ : ∃ X, X = w.heap.size := ⟨_, rfl⟩
 obtain ⟨w1, hw⟩ : ∃ w1, w1 = w.alloc (.cells #[.int .i64 0, .int .i64 ln, .int .i64 0, .string (ofL []), .slice none 0 0] 41) := ⟨_, rfl⟩
 have HXX1 : Hid (Loc w1 R X [.int .i64 0, .int .i64 ln, .int .i64 0, .string (ofL []), .slice none 0 0]) := Lib.hid (by rw [hw, hX]; exact Loc.new HP0.out.new [.int .i64 0, .int .i64 ln, .int .i64 0, .string (ofL []), .slice none 0 0] 41)
 have HWX : Hid (w.heap.size ≤ X) := Lib.hid (by rw [hX]; exact HF0.out.1.size)
 rw [← hX]
 rw [← hw] at ka ⊢
 have HP1 := Lib.hid (HP0.out.keep ka)
 have HF1 := Lib.hid (HF0.out.keeps ka)
 clear HP0 HF0 ka hw hX
 obtain ⟨x, ex, h⟩ := ask_out HM.out
 obtain ⟨s2, e1, h⟩ := mod_out h
 have NC := Lib.hid (name_at HP1.out e1 ex)
 replace HM := Lib.hid h
 clear h e1 ex
 go_wp2_with fail
 refine NC.out.mono ?_
 rintro e w3 ⟨rfl, R4, hp, hf⟩
 have HP2 := Lib.hid hp
 have HF2 := Lib.hid (HF1.out.trans hf)
 have HXX2 := Lib.hid (HXX1.out.keep hf)
 clear HP1 HF1 HXX1 hp hf NC 
 have zX0 := HXX2.out.cells 0 _ rfl
 have zX3 := HXX2.out.cells 3 _ rfl
 have gX0 := HXX2.out.fz 0
 have gX3 := HXX2.out.fz 3
 go_upto_region 2 with fail
 clear zX0 zX3 gX0 gX3
 obtain ⟨w5, hw⟩ : ∃ w5, w5 = w3.setCell ⟨X, 0, none⟩ (.int .i64 4) := ⟨_, rfl⟩
 have HP3 := Lib.hid (HP2.out.local HXX2.out.out (Nat.lt_of_lt_of_le HLO.out HWX.out) 0 (.int .i64 4))
 have HF3 := Lib.hid (HF2.out.local HWX.out 0 (.int .i64 4))
 have HXX3 : Hid (Loc w5 R4 X [.int .i64 4, .int .i64 ln, .int .i64 0, .string (ofL []), .slice none 0 0]) := Lib.hid (by rw [hw]; exact HXX2.out.set 0 (.int .i64 4) (by simp))
 rw [← hw] at HP3 HF3 ⊢
 clear HP2 HF2 HXX2 hw
 obtain ⟨w6, hw⟩ : ∃ w6, w6 = w5.setCell ⟨X, 3, none⟩ (.string (ofL x)) := ⟨_, rfl⟩
 have HP4 := Lib.hid (HP3.out.local HXX3.out.out (Nat.lt_of_lt_of_le HLO.out HWX.out) 3 (.string (ofL x)))
 have HF4 := Lib.hid (HF3.out.local HWX.out 3 (.string (ofL x)))
 have HXX4 : Hid (Loc w6 R4 X [.int .i64 4, .int .i64 ln, .int .i64 0, .string (ofL x), .slice none 0 0]) := Lib.hid (by rw [hw]; exact HXX3.out.set 3 (.string (ofL x)) (by simp))
 rw [← hw] at HP4 HF4 ⊢
 clear HP3 HF3 HXX3 hw
 obtain ⟨b, hb, h⟩ := ask_out HM.out
 have IC := Lib.hid (is_at1 HP4.out ({ data := #[91] }) hb)
 replace HM := Lib.hid h
 clear h hb
 cases b with
 | true =>
  have h := HM.out
  rw [if_pos rfl] at h
  replace HM := Lib.hid h
  clear h
  go_wp2_with fail
  refine IC.out.mono ?_
  rintro e w7 ⟨rfl, k1⟩
  have HP5 := Lib.hid (HP4.out.keep k1)
  have HF5 := Lib.hid (HF4.out.keeps k1)
  have HXX5 := Lib.hid (HXX4.out.keeps k1)
  clear HP4 HF4 HXX4 IC k1 
  have zX0 := HXX5.out.cells 0 _ rfl
  have gX0 := HXX5.out.fz 0
  go_upto_region 5 with fail
  clear zX0 gX0
  obtain ⟨w8, hw⟩ : ∃ w8, w8 = w7.setCell ⟨X, 0, none⟩ (.int .i64 5) := ⟨_, rfl⟩
  have HP6 := Lib.hid (HP5.out.local HXX5.out.out (Nat.lt_of_lt_of_le HLO.out HWX.out) 0 (.int .i64 5))
  have HF6 := Lib.hid (HF5.out.local HWX.out 0 (.int .i64 5))
  have HXX6 : Hid (Loc w8 R4 X [.int .i64 5, .int .i64 ln, .int .i64 0, .string (ofL x), .slice none 0 0]) := Lib.hid (by rw [hw]; exact HXX5.out.set 0 (.int .i64 5) (by simp))
  rw [← hw] at HP6 HF6 ⊢
  clear HP5 HF5 HXX5 hw
  have zX0 := HXX6.out.cells 0 _ rfl
  have zX1 := HXX6.out.cells 1 _ rfl
  have zX2 := HXX6.out.cells 2 _ rfl
  have zX3 := HXX6.out.cells 3 _ rfl
  have zX4 := HXX6.out.cells 4 _ rfl
  obtain ⟨y, s9, hm, h⟩ := bind_out HM.out
  have NA := Lib.hid (inside_any EX ({ data := #[91] }) ({ data := #[93] }) _ _ _ _ _ hm (HP6.out.keep ((Keeps.refl (fun _ => False) w8).drew)))
  replace HM := Lib.hid h
  clear h hm
  go_wp2_with fail
  refine wp_region_held_drew (S := fun w' => w'.cell? ⟨X, 0, none⟩ = some (.int .i64 5) ∧ w'.cell? ⟨X, 1, none⟩ = some (.int .i64 ln) ∧ w'.cell? ⟨X, 2, none⟩ = some (.int .i64 0) ∧ w'.cell? ⟨X, 3, none⟩ = some (.string (ofL x)) ∧ w'.cell? ⟨X, 4, none⟩ = some (.slice none 0 0)) (by kernel_rfl) (⟨zX0, zX1, zX2, zX3, zX4⟩) (fun hHeld => ?_)
  clear zX0 zX1 zX2 zX3 zX4
  have HP7 := Lib.hid (HP6.out.keep ((Keeps.refl (fun _ => False) w8).drew))
  have HF7 := Lib.hid (HF6.out.keeps ((Keeps.refl (fun _ => False) w8).drew))
  have HXX7 := Lib.hid (HXX6.out.keeps ((Keeps.refl (fun _ => False) w8).drew))
  clear HP6 HF6 HXX6 
  refine wpAnyH_take (i := 0) (v := ?_) rfl (by kernel_rfl) (by kernel_rfl) (by kernel_rfl) (fun _ _ _ h => h) (Or.inl ⟨by rfl, ?_⟩) (by assumption) ?_
  rotate_left
  ·(intro w' hSw; (try dsimp only at hSw); obtain ⟨y0, y1, y2, y3, y4⟩ := hSw; go_simp; (try (with_reducible rfl)))
  simp only [Act.put, List.getElem_toArray, List.getElem_cons_succ, List.getElem_cons_zero, List.setIfInBounds_toArray, List.set_cons_succ, List.set_cons_zero]
  refine wpAnyH_take (i := 1) (v := ?_) rfl (by kernel_rfl) (by kernel_rfl) (by kernel_rfl) (fun _ _ _ h => h) (Or.inl ⟨by rfl, ?_⟩) (by assumption) ?_
  rotate_left
  ·(intro w' hSw; (try dsimp only at hSw); obtain ⟨y0, y1, y2, y3, y4⟩ := hSw; go_simp; (try (with_reducible rfl)))
  simp only [Act.put, List.getElem_toArray, List.getElem_cons_succ, List.getElem_cons_zero, List.setIfInBounds_toArray, List.set_cons_succ, List.set_cons_zero]
  refine wpAnyH_take (i := 2) (v := ?_) rfl (by kernel_rfl) (by kernel_rfl) (by kernel_rfl) (fun _ _ _ h => h) (Or.inl ⟨by rfl, ?_⟩) (by assumption) ?_
  rotate_left
  ·(intro w' hSw; (try dsimp only at hSw); obtain ⟨y0, y1, y2, y3, y4⟩ := hSw; go_simp; (try (with_reducible rfl)))
  simp only [Act.put, List.getElem_toArray, List.getElem_cons_succ, List.getElem_cons_zero, List.setIfInBounds_toArray, List.set_cons_succ, List.set_cons_zero]
  refine wpAnyH_ready (rs := [3]) (by kernel_rfl) (by simp) ?_
  refine AllReadyH.cons rfl (fun K hK => ?_) AllReadyH.nil
  go_simp
  (go_at_call 165; refine NA.out.mono ?_; rintro e w10 ⟨rfl, R11, hp, hf⟩; (try go_simp))
  have HP8 := Lib.hid hp
  have HF8 := Lib.hid (HF7.out.trans hf)
  have HXX8 := Lib.hid (HXX7.out.keep hf)
  clear HP7 HF7 HXX7 hp hf NA
  refine hK.out _ _ ⟨HXX8.out.cells 0 _ rfl, HXX8.out.cells 1 _ rfl, HXX8.out.cells 2 _ rfl, HXX8.out.cells 3 _ rfl, HXX8.out.cells 4 _ rfl⟩ (fun hHeld => ?_)
  clear hK K
  refine wpAnyH_ready (rs := [4]) (by kernel_rfl) (by simp) ?_
  refine AllReadyH.cons rfl (fun K hK => ?_) AllReadyH.nil
  go_simp
  have ZA := Lib.hid (HXX8.out.keeps (Keeps.one w10 (.cells #[.int .i64 y] 3)))
  refine hK.out _ _ ⟨ZA.out.cells 0 _ rfl, ZA.out.cells 1 _ rfl, ZA.out.cells 2 _ rfl, ZA.out.cells 3 _ rfl, ZA.out.cells 4 _ rfl⟩ (fun hHeld => ?_)
  clear hK K ZA
  refine wpAnyH_ready (rs := [5]) (by kernel_rfl) (by simp) ?_
  refine AllReadyH.cons rfl (fun K hK => ?_) AllReadyH.nil
  have NB := Lib.hid ((nodeC P src T).one HP8.out (5) (ln) (0) (x) y HM.out)
  go_simp
  (go_at_call 97; refine NB.out.mono ?_; rintro e w12 ⟨rfl, R13, hp, hf⟩; (try go_simp))
  have HP9 := Lib.hid hp
  have HF9 := Lib.hid (HF8.out.trans hf)
  have HXX9 := Lib.hid (HXX8.out.keep hf)
  clear HP8 HF8 HXX8 hp hf NB
  refine hK.out _ _ ⟨HXX9.out.cells 0 _ rfl, HXX9.out.cells 1 _ rfl, HXX9.out.cells 2 _ rfl, HXX9.out.cells 3 _ rfl, HXX9.out.cells 4 _ rfl⟩ (fun hHeld => ?_)
  clear hK K
  refine wpAnyH_take (i := 6) (v := ?_) rfl (by kernel_rfl) (by kernel_rfl) (by kernel_rfl) (fun _ _ _ h => h) (Or.inl ⟨by rfl, ?_⟩) (by assumption) ?_
  rotate_left
  ·(intro w' hSw; (try dsimp only at hSw); obtain ⟨y0, y1, y2, y3, y4⟩ := hSw; go_simp; (try (with_reducible rfl)))
  simp only [Act.put, List.getElem_toArray, List.getElem_cons_succ, List.getElem_cons_zero, List.setIfInBounds_toArray, List.set_cons_succ, List.set_cons_zero]
  refine wpAnyH_done (by kernel_rfl) ?_ _
  clear hHeld
  go_wp2_with fail
  go_ret
  exact ⟨rfl, _, HP9.out, HF9.out⟩
 | false =>
  have h := HM.out
  rw [if_neg (by decide)] at h
  replace HM := Lib.hid h
  clear h
  go_wp2_with fail
  refine IC.out.mono ?_
  rintro e w14 ⟨rfl, k1⟩
  have HP5 := Lib.hid (HP4.out.keep k1)
  have HF5 := Lib.hid (HF4.out.keeps k1)
  have HXX5 := Lib.hid (HXX4.out.keeps k1)
  clear HP4 HF4 HXX4 IC k1 
  have NC := Lib.hid ((nodeC P src T).nil HP5.out (4) (ln) (0) (x) HM.out)
  have zX0 := HXX5.out.cells 0 _ rfl
  have zX1 := HXX5.out.cells 1 _ rfl
  have zX2 := HXX5.out.cells 2 _ rfl
  have zX3 := HXX5.out.cells 3 _ rfl
  have zX4 := HXX5.out.cells 4 _ rfl
  go_wp2_with fail
  refine NC.out.mono ?_
  rintro e w15 ⟨rfl, R16, hp, hf⟩
  have HP6 := Lib.hid hp
  have HF6 := Lib.hid (HF5.out.trans hf)
  have HXX6 := Lib.hid (HXX5.out.keep hf)
  clear HP5 HF5 HXX5 hp hf NC zX0 zX1 zX2 zX3 zX4
  go_wp2_with fail
  go_ret
  exact ⟨rfl, _, HP6.out, HF6.out⟩
end Go.Proofs.YtbhpnioggpgbhaaGreatDoor
