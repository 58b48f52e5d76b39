/-
 Layer 4: the program's All. Written by an AI agent.
-/
import Derived.Deep.OwnRows
import Derived.Test.YtbhpnioggpgbhaaGreatDoorMcbh
namespace Go.Proofs.YtbhpnioggpgbhaaGreatDoor
open Go Go.RowKit Go.Shelf
set_option linter.unusedVariables false
set_option linter.unusedSimpArgs false
theorem infoI : (Tryz.prog.info? 3).map (fun i => (i.zero, i.size, i.bytes)) = some (some (.int .i64 0), 1, 8) := by kernel_rfl
/-- Where a new row, or a struct, stands. -/
def blkV : Value → Option Nat
 | .slice (some a) _ _ => some a.block
 | .pointer (some a) => some a.block
 | _ => none
def MkV (B n : Nat) (v : Value) (w : World) : Prop := ∃ X, v = .slice (some ⟨X, 0, none⟩) n n ∧ Loc w (fun b => b < B) X (List.replicate n (.int .i64 0))
def zPrg : List Value := [.slice none 0 0, .slice none 0 0, .slice none 0 0, .slice none 0 0, .slice none 0 0, .slice none 0 0, .slice none 0 0, .int .i64 0, .int .i64 0, .int .i64 0]
def MkP (B : Nat) (v : Value) (w : World) : Prop := ∃ X, v = .pointer (some ⟨X, 0, none⟩) ∧ Loc w (fun b => b < B) X zPrg
def depA (i : Nat) : List Nat := if i = 11 then [2, 4, 6, 10] else if i = 12 then [2, 4, 6, 10, 11] else []
def VA (B M K : Nat) (tr tq : Value) (i : Nat) (f : Nat → Value) (w : World) : Prop := if i = 13 then MkP B (f 13) w else if i = 10 then MkV B K (f 10) w else if i = 11 then f 11 = .agg #[tr, tq, f 2, f 4, f 6, f 10] else if i = 12 then f 12 = .agg #[tr, tq, f 2, f 4, f 6, f 10, .slice none 0 0, .int .i64 0, .int .i64 0, .int .i64 0] else MkV B M (f i) w
def dA (i : Nat) : Tmp := if i = 2 then (26 : Nat) else if i = 4 then (28 : Nat) else if i = 6 then (30 : Nat) else if i = 10 then (34 : Nat) else if i = 11 then (35 : Nat) else if i = 12 then (36 : Nat) else (8 : Nat)
theorem VA_keep (B M K : Nat) (tr tq : Value) (i : Nat) (f : Nat → Value) (w1 w2 : World) (k : Keeps (fun _ => False) w1 w2) (h : VA B M K tr tq i f w1) : VA B M K tr tq i f w2 := by
 unfold VA at h ⊢
 split at h
 ·rename_i e; rw [if_pos e]; obtain ⟨X, h1, h2⟩ := h; exact ⟨X, h1, h2.keeps k⟩
 rename_i e
 rw [if_neg e]
 split at h
 ·rename_i e; rw [if_pos e]; obtain ⟨X, h1, h2⟩ := h; exact ⟨X, h1, h2.keeps k⟩
 rename_i e
 rw [if_neg e]
 split at h
 ·rename_i e; rw [if_pos e]; exact h
 rename_i e
 rw [if_neg e]
 split at h
 ·rename_i e; rw [if_pos e]; exact h
 rename_i e
 rw [if_neg e]
 obtain ⟨X, h1, h2⟩ := h
 exact ⟨X, h1, h2.keeps k⟩
theorem VA_dep (B M K : Nat) (tr tq : Value) (i : Nat) (f g : Nat → Value) (w : World) (h : ∀ j, j = i ∨ j ∈ depA i → f j = g j) (v : VA B M K tr tq i f w) : VA B M K tr tq i g w := by
 unfold VA at v ⊢
 have hi := h i (.inl rfl)
 split at v
 ·rename_i e; subst e; rw [if_pos rfl, ← hi]; exact v
 rename_i e
 rw [if_neg e]
 split at v
 ·rename_i e; subst e; rw [if_pos rfl, ← hi]; exact v
 rename_i e
 rw [if_neg e]
 split at v
 ·rename_i e; subst e; rw [if_pos rfl, ← hi, ← h 2 (.inr (by decide)), ← h 4 (.inr (by decide)), ← h 6 (.inr (by decide)), ← h 10 (.inr (by decide))]; exact v
 rename_i e
 rw [if_neg e]
 split at v
 ·rename_i e; subst e; rw [if_pos rfl, ← hi, ← h 2 (.inr (by decide)), ← h 4 (.inr (by decide)), ← h 6 (.inr (by decide)), ← h 10 (.inr (by decide))]; exact v
 rename_i e
 rw [if_neg e, ← hi]
 exact v
def DA (i j : Nat) (u v : Value) : Prop := i ≠ 11 → i ≠ 12 → j ≠ 11 → j ≠ 12 → blkV u ≠ blkV v
theorem VA_blk {B M K : Nat} {tr tq : Value} {i : Nat} {f : Nat → Value} {w : World} (h : VA B M K tr tq i f w) (h1 : i ≠ 11) (h2 : i ≠ 12) : ∃ X, blkV (f i) = some X ∧ X < w.heap.size := by
 unfold VA at h
 split at h
 ·rename_i e; subst e; obtain ⟨X, e, h2⟩ := h; rw [e]; exact ⟨X, rfl, h2.lt⟩
 split at h
 ·rename_i e; subst e; obtain ⟨X, e, h2⟩ := h; rw [e]; exact ⟨X, rfl, h2.lt⟩
 obtain ⟨X, e, h2⟩ := h
 rw [e]
 exact ⟨X, rfl, h2.lt⟩
theorem DA_new {B M K i j : Nat} {tr tq v : Value} {f : Nat → Value} {w : World} (h : VA B M K tr tq j f w) (hv : i = 11 ∨ i = 12 ∨ blkV v = some w.heap.size) : DA j i (f j) v ∧ DA i j v (f j) := by
 unfold DA
 refine ⟨fun h1 h2 h3 h4 => ?_, fun h1 h2 h3 h4 => ?_⟩
 ·obtain ⟨X, e, hX⟩ := VA_blk h h1 h2
  have hv := (hv.resolve_left h3).resolve_left h4
  rw [e, hv]
  exact fun h => by have := Option.some.inj h; omega
 ·obtain ⟨X, e, hX⟩ := VA_blk h h3 h4
  have hv := (hv.resolve_left h1).resolve_left h2
  rw [e, hv]
  exact fun h => by have := Option.some.inj h; omega
theorem loc_made {w : World} {B n : Nat} (hB : B ≤ w.heap.size) (T : TypeId) : Loc (w.alloc (.cells (madeCells #[.int .i64 0] n) T)) (fun b => b < B) w.heap.size (List.replicate n (.int .i64 0)) := by
 have e : madeCells #[Value.int .i64 0] n = (List.replicate n (Value.int .i64 0)).toArray := by
  apply Array.ext'
  rw [toList_madeCells_one]
 rw [e]
 exact Loc.new (w := w) (R := fun b => b < B) (fun h => absurd h (Nat.not_lt.2 hB)) _ _
theorem Loc.put {w : World} {R : Nat → Prop} {X : Nat} {vs : List Value} (h : Loc w R X vs) (j : Nat) (u : Value) (hj : j < vs.length) : Loc (w.setCell ⟨X, j, none⟩ u) R X (vs.set j u) := by
 have k := one_block w X j u
 refine ⟨Nat.lt_of_lt_of_le h.lt k.size, h.out, fun i v hv => ?_, fun i => (World.frozen?_setCell w _ _ _).trans (h.fz i)⟩
 rw [List.getElem?_set] at hv
 by_cases e : j = i
 ·subst e
  rw [if_pos rfl, if_pos hj] at hv
  rw [← Option.some.inj hv]
  exact cell_same w X j _ _ (h.cells j vs[j] (List.getElem?_eq_getElem hj))
 ·rw [if_neg e] at hv
  exact (cell_other w j i _ (.inl e)).trans (h.cells i v hv)
def setL (P : Nat) : World → Nat → List Value → World
 | w, _, [] => w
 | w, i, v :: l => setL P (w.setCell ⟨P, i, none⟩ v) (i + 1) l
def setO : List Value → Nat → List Value → List Value
 | o, _, [] => o
 | o, i, v :: l => setO (o.set i v) (i + 1) l
theorem setL_loc {R : Nat → Prop} {P : Nat} : ∀ (l : List Value) (i : Nat) (w : World) (o : List Value), Loc w R P o → i + l.length ≤ o.length → Loc (setL P w i l) R P (setO o i l)
 | [], i, w, o, h, _ => h
 | v :: l, i, w, o, h, hl => setL_loc l (i + 1) _ _ (h.put i v (by have hl : i + (l.length + 1) ≤ _ := hl; omega)) (by rw [List.length_set]; have hl : i + (l.length + 1) ≤ _ := hl; omega)
theorem setL_keeps {P : Nat} : ∀ (l : List Value) (i : Nat) (w : World), Keeps (fun b => b = P) w (setL P w i l)
 | [], i, w => Keeps.refl _ _
 | v :: l, i, w => (one_block w P i v).trans (setL_keeps l (i + 1) _) (fun _ _ h => h)
theorem RowN.rd {w : World} {b : Nat} {l : List Int} (h : RowN w b l) : RdI w (some ⟨b, 0, none⟩) l := fun h0 => ⟨b, 0, rfl, fun k hk => by
 rw [Nat.zero_add, h.cell k l[k] (List.getElem?_eq_getElem hk), List.getD_eq_getElem?_getD, List.getElem?_eq_getElem hk]
 rfl⟩
theorem Loc.rowN {w : World} {R : Nat → Prop} {X n : Nat} {z : Int} (h : Loc w R X (List.replicate n (.int .i64 z))) : RowN w X (List.replicate n z) :=
 ⟨fun j v hv => h.cells j _ (by
  rw [List.getElem?_replicate] at hv ⊢
  split at hv
  ·rename_i hj; rw [if_pos hj, ← Option.some.inj hv]
  ·cases hv), h.fz⟩
/-- A program in memory. -/
def PrgR (w : World) (v : Value) (nd : List Nd) (fs : List Fnc) (L : List Tri) (ns : List Nat) : Prop :=
 ∃ A A' c c' T S F Z cT cS cF cZ, v = .agg #[.slice A nd.length c, .slice A' fs.length c', .slice T L.length cT, .slice S L.length cS, .slice F L.length cF, .slice Z ns.length cZ] ∧ TreeR 0 w A A' nd fs ∧ CapR w A nd ∧ RdI w T (L.map Tri.t) ∧ RdI w S (L.map Tri.s) ∧ RdI w F (L.map Tri.f) ∧ RdI w Z (ns.map fun n : Nat => (n : Int))
def noPrg : Value := .agg #[.slice none 0 0, .slice none 0 0, .slice none 0 0, .slice none 0 0, .slice none 0 0, .slice none 0 0]
def CkOut (nd : List Nd) (fs : List Fnc) (r : CR (List Nat × List Tri)) (w : World) (e : Ending) (w' : World) : Prop :=
 Keeps (fun _ => False) w w' ∧ match r with
 | .ok x => ∃ v, e = .returned (.tuple #[v, .int .i64 0, .int .i64 0]) ∧ PrgR w' v nd fs x.2 x.1
 | .error z => e = .returned (.tuple #[noPrg, .int .i64 z.1, .int .i64 (z.2 : Int)])
def s01 (M K i : Nat) : CkS := ⟨List.replicate M 0, List.replicate i (-1) ++ List.replicate (M - i) 0, List.replicate M 0, List.replicate K 0, [], 0, 0, 0⟩
theorem ovr_all {α : Type} (a l : List α) (h : l.length = a.length) : ovr a 0 l = l := by
 unfold ovr
 rw [List.take_zero, List.nil_append, Nat.zero_add, h, List.drop_length, List.append_nil]
theorem s01_set (M K i : Nat) (h : i < M) : ({ s01 M K i with sl := (s01 M K i).sl.set i (-1) } : CkS) = s01 M K (i + 1) := by
 have e : (List.replicate i (-1 : Int) ++ List.replicate (M - i) 0).set i (-1) = List.replicate (i + 1) (-1) ++ List.replicate (M - (i + 1)) 0 := by
  rw [List.set_append_right _ _ (by simp), List.length_replicate, Nat.sub_self, show M - i = (M - (i + 1)) + 1 by omega, List.replicate_succ, List.set_cons_zero, List.replicate_succ', List.append_assoc]
  rfl
 unfold s01
 simp only [e]
set_option maxRecDepth 100000 in
set_option maxHeartbeats 16000000 in
theorem pckall_any (nd : List Nd) (fs : List Fnc) (A A' : Option Addr) (M K cc cd : Nat) (hM : M = nd.length) (hK : K = fs.length) (hK6 : K ≤ 1000) (hM6 : M ≤ 1000000) (w : World) (hT : TreeR 0 w A A' nd fs) (hcp : CapR w A nd) (hz : HdZ fs (0, 0)) (res : CR (List Nat × List Tri)) (hfn : ∀ (q : CkQ) (w0 : World), q.m = M → q.k = K → ∃ r, FunI q nd fs w0 0 K (s01 M K M) r ∧ rsT (s01 M K M) 0 0 res r) (hres : ∀ x, res = .ok x → x.1.length = K ∧ x.2.length = M) :
  Calls Tryz.prog 15 #[.agg #[.slice A M cc, .slice A' K cd]] w (CkOut nd fs res w) := by
 have HCP := Lib.hid hcp
 have HFN := Lib.hid hfn
 have HRES := Lib.hid hres
 have HT := Lib.hid hT
 have HK := Lib.hid hK
 have HM := Lib.hid hM
 have HZ := Lib.hid hz
 have HK6 := Lib.hid hK6
 have hmM := run_make_row' (P := Tryz.prog) 28 3 (.int .i64 0) 8 Tryz.underlying28 infoI rfl .i64 .i64 M (by omega) (by omega)
 have hmK := run_make_row' (P := Tryz.prog) 28 3 (.int .i64 0) 8 Tryz.underlying28 infoI rfl .i64 .i64 K (by omega) (by omega)
 have HmM := Lib.hid hmM
 have HmK := Lib.hid hmK
 clear hT hK hz hM hmM hmK hfn hres hcp
 go_enter Tryz.func15, Tryz.ntmps15
 go_upto_region 1 with fail
 obtain ⟨P1, hP1⟩ : ∃ X, X = w.heap.size := ⟨_, rfl⟩
 obtain ⟨w1, hw1⟩ : ∃ w1, w1 = w.alloc (.cells #[.slice A M cc, .slice A' K cd] 27) := ⟨_, rfl⟩
 have ka := Keeps.one w (.cells #[.slice A M cc, .slice A' K cd] 27)
 have L1 : Loc w1 (fun _ => False) P1 [.slice A M cc, .slice A' K cd] := by rw [hw1, hP1]; exact Loc.new (fun h => h) [.slice A M cc, .slice A' K cd] 27
 have e1 : w1.heap.size = P1 + 1 := by rw [hw1, hP1]; simp
 rw [← hP1]
 rw [← hw1] at ka ⊢
 obtain ⟨w2, hw2⟩ : ∃ w2, w2 = w1.alloc (.cells #[.slice none 0 0, .slice none 0 0, .slice none 0 0, .slice none 0 0, .slice none 0 0, .slice none 0 0] 30) := ⟨_, rfl⟩
 have kb := Keeps.one w1 (.cells #[.slice none 0 0, .slice none 0 0, .slice none 0 0, .slice none 0 0, .slice none 0 0, .slice none 0 0] 30)
 have L2 : Loc w2 (fun _ => False) (P1 + 1) [.slice none 0 0, .slice none 0 0, .slice none 0 0, .slice none 0 0, .slice none 0 0, .slice none 0 0] := by rw [hw2, ← e1]; exact Loc.new (fun h => h) [.slice none 0 0, .slice none 0 0, .slice none 0 0, .slice none 0 0, .slice none 0 0, .slice none 0 0] 30
 rw [← hw2] at kb ⊢
 obtain ⟨P2, hP2⟩ : ∃ X, X = P1 + 1 := ⟨_, rfl⟩
 rw [← hP2] at L2 ⊢
 have L1' := L1.keeps kb
 have NC := pheads_any nd fs A A' M K cc cd HK.out HK6.out w2 (HT.out.keep (ka.trans kb (fun _ _ h => h))) _ HZ.out
 have K2 := Lib.hid (ka.trans kb (fun _ _ h => h))
 have HP1 := Lib.hid hP1
 have HP2 := Lib.hid hP2
 have HL1 := Lib.hid L1'
 have HL2 := Lib.hid L2
 have a0 := L1'.cells 0 _ rfl
 have a1 := L1'.cells 1 _ rfl
 have NC := Lib.hid NC
 clear ka kb hw1 hw2 e1 L1 L1' L2 hP1 hP2
 go_wp2_with fail
 refine NC.out.mono ?_
 rintro e w3 ⟨rfl, k3⟩
 have HL1 := Lib.hid (HL1.out.keeps k3)
 have HL2 := Lib.hid (HL2.out.keeps k3)
 have K3 := Lib.hid (K2.out.trans k3 (fun _ _ h => h))
 have a0 := HL1.out.cells 0 _ rfl
 have a1 := HL1.out.cells 1 _ rfl
 have hmM := HmM.out
 have hmK := HmK.out
 clear NC k3
 go_upto_region 5 with fail
 refine wp_region_held_drew (S := fun w' => Keeps (fun _ => False) w3 w') rfl ((Keeps.refl _ w3).drew) (fun hSw => ?_)
 refine wpAnyH_take (i := 0) (v := ?_) rfl (by kernel_rfl) (by kernel_rfl) (by kernel_rfl) (fun _ _ _ h => h) (Or.inl ⟨by rfl, ?_⟩) (by assumption) ?_
 rotate_left
 ·(intro w' hSw'; have f0 := (Keeps.cell hSw' (cell_ltk a0) (fun h => h)).trans a0; have f1 := (Keeps.cell hSw' (cell_ltk a1) (fun h => h)).trans a1; go_simp; (try (with_reducible rfl)))
 simp only [Act.put, List.getElem_toArray, List.getElem_cons_succ, List.getElem_cons_zero, List.setIfInBounds_toArray, List.set_cons_succ, List.set_cons_zero]
 refine wpAnyH_take (i := 1) (v := ?_) rfl (by kernel_rfl) (by kernel_rfl) (by kernel_rfl) (fun _ _ _ h => h) (Or.inl ⟨by rfl, ?_⟩) (by assumption) ?_
 rotate_left
 ·(intro w' hSw'; go_simp; (try (with_reducible rfl)))
 simp only [Act.put, List.getElem_toArray, List.getElem_cons_succ, List.getElem_cons_zero, List.setIfInBounds_toArray, List.set_cons_succ, List.set_cons_zero]
 refine wpAnyH_take (i := 3) (v := ?_) rfl (by kernel_rfl) (by kernel_rfl) (by kernel_rfl) (fun _ _ _ h => h) (Or.inl ⟨by rfl, ?_⟩) (by assumption) ?_
 rotate_left
 ·(intro w' hSw'; go_simp; (try (with_reducible rfl)))
 simp only [Act.put, List.getElem_toArray, List.getElem_cons_succ, List.getElem_cons_zero, List.setIfInBounds_toArray, List.set_cons_succ, List.set_cons_zero]
 refine wpAnyH_take (i := 5) (v := ?_) rfl (by kernel_rfl) (by kernel_rfl) (by kernel_rfl) (fun _ _ _ h => h) (Or.inl ⟨by rfl, ?_⟩) (by assumption) ?_
 rotate_left
 ·(intro w' hSw'; go_simp; (try (with_reducible rfl)))
 simp only [Act.put, List.getElem_toArray, List.getElem_cons_succ, List.getElem_cons_zero, List.setIfInBounds_toArray, List.set_cons_succ, List.set_cons_zero]
 refine wpAnyH_take (i := 7) (v := ?_) rfl (by kernel_rfl) (by kernel_rfl) (by kernel_rfl) (fun _ _ _ h => h) (Or.inl ⟨by rfl, ?_⟩) (by assumption) ?_
 rotate_left
 ·(intro w' hSw'; go_simp; (try (with_reducible rfl)))
 simp only [Act.put, List.getElem_toArray, List.getElem_cons_succ, List.getElem_cons_zero, List.setIfInBounds_toArray, List.set_cons_succ, List.set_cons_zero]
 refine wpAnyH_take (i := 8) (v := ?_) rfl (by kernel_rfl) (by kernel_rfl) (by kernel_rfl) (fun _ _ _ h => h) (Or.inl ⟨by rfl, ?_⟩) (by assumption) ?_
 rotate_left
 ·(intro w' hSw'; have f0 := (Keeps.cell hSw' (cell_ltk a0) (fun h => h)).trans a0; have f1 := (Keeps.cell hSw' (cell_ltk a1) (fun h => h)).trans a1; go_simp; (try (with_reducible rfl)))
 simp only [Act.put, List.getElem_toArray, List.getElem_cons_succ, List.getElem_cons_zero, List.setIfInBounds_toArray, List.set_cons_succ, List.set_cons_zero]
 refine wpAnyH_take (i := 9) (v := ?_) rfl (by kernel_rfl) (by kernel_rfl) (by kernel_rfl) (fun _ _ _ h => h) (Or.inl ⟨by rfl, ?_⟩) (by assumption) ?_
 rotate_left
 ·(intro w' hSw'; go_simp; (try (with_reducible rfl)))
 simp only [Act.put, List.getElem_toArray, List.getElem_cons_succ, List.getElem_cons_zero, List.setIfInBounds_toArray, List.set_cons_succ, List.set_cons_zero]
 have hmM := HmM.out
 have hmK := HmK.out
 have HB3 : Hid (∀ w', Keeps (fun _ => False) w3 w' → w3.heap.size ≤ w'.heap.size) := Lib.hid (fun w' k => k.size)
 refine wpAnyH_makes _ w3.drew [2, 4, 6, 10, 11, 12, 13] dA depA (VA w3.heap.size M K (.slice A M cc) (.slice A' K cd)) DA (VA_keep _ _ _ _ _) (VA_dep _ _ _ _ _) (fun w' k => ((Keeps.refl (fun _ => False) w3).drew).trans k (fun _ _ h => h)) (by intro i hi; simp only [List.mem_cons, List.not_mem_nil, or_false] at hi; rcases hi with rfl | rfl | rfl | rfl | rfl | rfl | rfl <;> simp [dA]) ?_ #[true, true, true, true, true, true, true, true, true, true, true, true, true, true, false] 1 ?_ (by decide) 7 _ [2, 4, 6, 10, 11, 12, 13] _ _ (by kernel_rfl) (fun _ h => h) rfl rfl (fun _ _ => rfl) (fun i h1 h2 => absurd h1 h2) (fun i h1 j h2 _ h3 => absurd h1 h3) (fun i h1 h2 => absurd h1 h2) (by decide) (Keeps.refl _ _)
 ·intro i hi
  simp only [List.mem_cons, List.not_mem_nil, or_false] at hi
  rcases hi with rfl | rfl | rfl | rfl | rfl | rfl | rfl
  ·refine ⟨by decide, _, rfl, rfl, rfl, fun ev f hev hdf w' hde hk => ?_⟩
   have e : ev (.tmp 25) = .int .i64 M := hev (.tmp 25) (by intro t h; cases h; decide)
   simp only [List.getElem_toArray, List.getElem_cons_succ, List.getElem_cons_zero]
   refine ⟨.slice (some ⟨w'.heap.size, 0, none⟩) M M, w'.alloc (.cells (madeCells #[.int .i64 0] M) 3), ?_, Keeps.one _ _, ?_, fun j _ _ hu => DA_new hu (.inr (.inr rfl))⟩
   ·simp [execOp, e, hmM]
   ·exact ⟨_, rfl, loc_made (HB3.out _ (((Keeps.refl (fun _ => False) w3).drew).trans hk (fun _ _ h => h))) _⟩
  ·refine ⟨by decide, _, rfl, rfl, rfl, fun ev f hev hdf w' hde hk => ?_⟩
   have e : ev (.tmp 27) = .int .i64 M := hev (.tmp 27) (by intro t h; cases h; decide)
   simp only [List.getElem_toArray, List.getElem_cons_succ, List.getElem_cons_zero]
   refine ⟨.slice (some ⟨w'.heap.size, 0, none⟩) M M, w'.alloc (.cells (madeCells #[.int .i64 0] M) 3), ?_, Keeps.one _ _, ?_, fun j _ _ hu => DA_new hu (.inr (.inr rfl))⟩
   ·simp [execOp, e, hmM]
   ·exact ⟨_, rfl, loc_made (HB3.out _ (((Keeps.refl (fun _ => False) w3).drew).trans hk (fun _ _ h => h))) _⟩
  ·refine ⟨by decide, _, rfl, rfl, rfl, fun ev f hev hdf w' hde hk => ?_⟩
   have e : ev (.tmp 29) = .int .i64 M := hev (.tmp 29) (by intro t h; cases h; decide)
   simp only [List.getElem_toArray, List.getElem_cons_succ, List.getElem_cons_zero]
   refine ⟨.slice (some ⟨w'.heap.size, 0, none⟩) M M, w'.alloc (.cells (madeCells #[.int .i64 0] M) 3), ?_, Keeps.one _ _, ?_, fun j _ _ hu => DA_new hu (.inr (.inr rfl))⟩
   ·simp [execOp, e, hmM]
   ·exact ⟨_, rfl, loc_made (HB3.out _ (((Keeps.refl (fun _ => False) w3).drew).trans hk (fun _ _ h => h))) _⟩
  ·refine ⟨by decide, _, rfl, rfl, rfl, fun ev f hev hdf w' hde hk => ?_⟩
   have e : ev (.tmp 33) = .int .i64 K := hev (.tmp 33) (by intro t h; cases h; decide)
   simp only [List.getElem_toArray, List.getElem_cons_succ, List.getElem_cons_zero]
   refine ⟨.slice (some ⟨w'.heap.size, 0, none⟩) K K, w'.alloc (.cells (madeCells #[.int .i64 0] K) 3), ?_, Keeps.one _ _, ?_, fun j _ _ hu => DA_new hu (.inr (.inr rfl))⟩
   ·simp [execOp, e, hmK]
   ·exact ⟨_, rfl, loc_made (HB3.out _ (((Keeps.refl (fun _ => False) w3).drew).trans hk (fun _ _ h => h))) _⟩
  ·refine ⟨by decide, _, rfl, rfl, rfl, fun ev f hev hdf w' hde hk => ?_⟩
   have e0 : ev (.tmp 24) = .agg #[.slice A M cc, .slice A' K cd] := hev (.tmp 24) (by intro t h; cases h; decide)
   have e1 : ev (.tmp 26) = f 2 := hdf 2 (by decide)
   have e2 : ev (.tmp 28) = f 4 := hdf 4 (by decide)
   have e3 : ev (.tmp 30) = f 6 := hdf 6 (by decide)
   have e4 : ev (.tmp 34) = f 10 := hdf 10 (by decide)
   simp only [List.getElem_toArray, List.getElem_cons_succ, List.getElem_cons_zero]
   obtain ⟨X2, x2, _⟩ : MkV w3.heap.size M (f 2) w' := hde 2 (by decide)
   obtain ⟨X4, x4, _⟩ : MkV w3.heap.size M (f 4) w' := hde 4 (by decide)
   obtain ⟨X6, x6, _⟩ : MkV w3.heap.size M (f 6) w' := hde 6 (by decide)
   obtain ⟨X10, x10, _⟩ : MkV w3.heap.size K (f 10) w' := hde 10 (by decide)
   refine ⟨.agg #[.slice A M cc, .slice A' K cd, f 2, f 4, f 6, f 10], w', ?_, Keeps.refl _ _, rfl, fun j _ _ hu => DA_new hu (.inl rfl)⟩
   rw [x2, x4, x6, x10]
   rw [x2] at e1
   rw [x4] at e2
   rw [x6] at e3
   rw [x10] at e4
   clear x2 x4 x6 x10 hde hdf hev
   go_simp
  ·refine ⟨by decide, _, rfl, rfl, rfl, fun ev f hev hdf w' hde hk => ?_⟩
   have e1 : ev (.tmp 35) = f 11 := hdf 11 (by decide)
   simp only [List.getElem_toArray, List.getElem_cons_succ, List.getElem_cons_zero]
   obtain ⟨X2, x2, _⟩ : MkV w3.heap.size M (f 2) w' := hde 2 (by decide)
   obtain ⟨X4, x4, _⟩ : MkV w3.heap.size M (f 4) w' := hde 4 (by decide)
   obtain ⟨X6, x6, _⟩ : MkV w3.heap.size M (f 6) w' := hde 6 (by decide)
   obtain ⟨X10, x10, _⟩ : MkV w3.heap.size K (f 10) w' := hde 10 (by decide)
   have x11 : f 11 = .agg #[.slice A M cc, .slice A' K cd, f 2, f 4, f 6, f 10] := hde 11 (by decide)
   refine ⟨.agg #[.slice A M cc, .slice A' K cd, f 2, f 4, f 6, f 10, .slice none 0 0, .int .i64 0, .int .i64 0, .int .i64 0], w', ?_, Keeps.refl _ _, rfl, fun j _ _ hu => DA_new hu (.inr (.inl rfl))⟩
   rw [x11] at e1
   rw [x2, x4, x6, x10] at e1 ⊢
   clear x2 x4 x6 x10 x11 hde hdf hev
   go_simp
  ·refine ⟨by decide, _, rfl, rfl, rfl, fun ev f hev hdf w' hde hk => ?_⟩
   simp only [List.getElem_toArray, List.getElem_cons_succ, List.getElem_cons_zero]
   refine ⟨.pointer (some ⟨w'.heap.size, 0, none⟩), w'.alloc (.cells zPrg.toArray 63), ?_, Keeps.one _ _, ?_, fun j _ _ hu => DA_new hu (.inr (.inr rfl))⟩
   ·go_simp
    rfl
   ·exact ⟨_, rfl, Loc.new (w := w') (R := fun b => b < w3.heap.size) (fun h => absurd h (Nat.not_lt.2 (HB3.out _ (((Keeps.refl (fun _ => False) w3).drew).trans hk (fun _ _ h => h))))) _ _⟩
 ·intro v w4 k4 hV hD
  obtain ⟨TT, et, LT⟩ : MkV w3.heap.size M (v 2) w4 := hV 2 (by decide)
  obtain ⟨SS, es, LS⟩ : MkV w3.heap.size M (v 4) w4 := hV 4 (by decide)
  obtain ⟨FF, ef, LF⟩ : MkV w3.heap.size M (v 6) w4 := hV 6 (by decide)
  obtain ⟨ZZ, ez, LZ⟩ : MkV w3.heap.size K (v 10) w4 := hV 10 (by decide)
  obtain ⟨P, ep, LP⟩ : MkP w3.heap.size (v 13) w4 := hV 13 (by decide)
  have e11 : v 11 = .agg #[.slice A M cc, .slice A' K cd, v 2, v 4, v 6, v 10] := hV 11 (by decide)
  have e12 : v 12 = .agg #[.slice A M cc, .slice A' K cd, v 2, v 4, v 6, v 10, .slice none 0 0, .int .i64 0, .int .i64 0, .int .i64 0] := hV 12 (by decide)
  have hdist : [P, TT, SS, FF, ZZ].Nodup := by
   have HD : ∀ i ∈ [2, 4, 6, 10, 13], ∀ j ∈ [2, 4, 6, 10, 13], i ≠ j → blkV (v i) ≠ blkV (v j) := by
    intro i hi j hj hn
    have hh : ∀ k ∈ [2, 4, 6, 10, 13], k ∈ [2, 4, 6, 10, 11, 12, 13] ∧ k ≠ 11 ∧ k ≠ 12 := by decide
    exact hD i (hh i hi).1 j (hh j hj).1 hn (hh i hi).2.1 (hh i hi).2.2 (hh j hj).2.1 (hh j hj).2.2
   have h1 := HD 13 (by decide) 2 (by decide) (by decide)
   have h2 := HD 13 (by decide) 4 (by decide) (by decide)
   have h3 := HD 13 (by decide) 6 (by decide) (by decide)
   have h4 := HD 13 (by decide) 10 (by decide) (by decide)
   have h5 := HD 2 (by decide) 4 (by decide) (by decide)
   have h6 := HD 2 (by decide) 6 (by decide) (by decide)
   have h7 := HD 2 (by decide) 10 (by decide) (by decide)
   have h8 := HD 4 (by decide) 6 (by decide) (by decide)
   have h9 := HD 4 (by decide) 10 (by decide) (by decide)
   have h10 := HD 6 (by decide) 10 (by decide) (by decide)
   simp only [ep, et, es, ef, ez, blkV, ne_eq, Option.some.injEq] at h1 h2 h3 h4 h5 h6 h7 h8 h9 h10
   simp [h1, h2, h3, h4, h5, h6, h7, h8, h9, h10]
  have hSw4 : Keeps (fun _ => False) w3 w4 := ((Keeps.refl (fun _ => False) w3).drew).trans k4 (fun _ _ h => h)
  simp only [putA, List.foldl, dA, e12, e11, et, es, ef, ez, ep]
  simp only [Act.put, List.getElem_toArray, List.getElem_cons_succ, List.getElem_cons_zero, List.setIfInBounds_toArray, List.set_cons_succ, List.set_cons_zero, if_pos, reduceIte, Nat.reduceEqDiff]
  clear et es ef ez ep e11 e12 hV hD hmM hmK hSw
  have p0 := LP.cells 0 _ rfl
  have p1 := LP.cells 1 _ rfl
  have p2 := LP.cells 2 _ rfl
  have p3 := LP.cells 3 _ rfl
  have p4 := LP.cells 4 _ rfl
  have p5 := LP.cells 5 _ rfl
  have p6 := LP.cells 6 _ rfl
  have p7 := LP.cells 7 _ rfl
  have p8 := LP.cells 8 _ rfl
  have p9 := LP.cells 9 _ rfl
  have g0 := LP.fz 0
  have g1 := LP.fz 1
  have g2 := LP.fz 2
  have g3 := LP.fz 3
  have g4 := LP.fz 4
  have g5 := LP.fz 5
  have g6 := LP.fz 6
  have g7 := LP.fz 7
  have g8 := LP.fz 8
  have g9 := LP.fz 9
  have k5 : Keeps (fun _ => False) w3 (setL P w4 0 [.slice A M cc, .slice A' K cd, .slice (some ⟨TT, 0, none⟩) M M, .slice (some ⟨SS, 0, none⟩) M M, .slice (some ⟨FF, 0, none⟩) M M, .slice (some ⟨ZZ, 0, none⟩) K K, .slice none 0 0, .int .i64 0, .int .i64 0, .int .i64 0]) := hSw4.trans (setL_keeps [.slice A M cc, .slice A' K cd, .slice (some ⟨TT, 0, none⟩) M M, .slice (some ⟨SS, 0, none⟩) M M, .slice (some ⟨FF, 0, none⟩) M M, .slice (some ⟨ZZ, 0, none⟩) K K, .slice none 0 0, .int .i64 0, .int .i64 0, .int .i64 0] 0 w4) (fun x hx e => LP.out (by rw [← e]; exact hx))
  refine wpAnyH_ready (rs := [14]) (by kernel_rfl) (by simp) ?_
  refine AllReadyH.cons rfl (fun K' hK => ?_) AllReadyH.nil
  go_simp
  refine hK.out _ _ k5 (fun hHeld => ?_)
  clear hK K' hHeld
  refine wpAnyH_done (by kernel_rfl) ?_ _
  obtain ⟨w5, hw5⟩ : ∃ w5, w5 = setL P w4 0 [.slice A M cc, .slice A' K cd, .slice (some ⟨TT, 0, none⟩) M M, .slice (some ⟨SS, 0, none⟩) M M, .slice (some ⟨FF, 0, none⟩) M M, .slice (some ⟨ZZ, 0, none⟩) K K, .slice none 0 0, .int .i64 0, .int .i64 0, .int .i64 0] := ⟨_, rfl⟩
  have hw5' : w5 = ((((((((((w4.setCell ⟨P, 0, none⟩ (.slice A M cc)).setCell ⟨P, 1, none⟩ (.slice A' K cd)).setCell ⟨P, 2, none⟩ (.slice (some ⟨TT, 0, none⟩) M M)).setCell ⟨P, 3, none⟩ (.slice (some ⟨SS, 0, none⟩) M M)).setCell ⟨P, 4, none⟩ (.slice (some ⟨FF, 0, none⟩) M M)).setCell ⟨P, 5, none⟩ (.slice (some ⟨ZZ, 0, none⟩) K K)).setCell ⟨P, 6, none⟩ (.slice none 0 0)).setCell ⟨P, 7, none⟩ (.int .i64 0)).setCell ⟨P, 8, none⟩ (.int .i64 0)).setCell ⟨P, 9, none⟩ (.int .i64 0)) := hw5
  have LP5 : Loc w5 (fun b => b < w3.heap.size) P [.slice A M cc, .slice A' K cd, .slice (some ⟨TT, 0, none⟩) M M, .slice (some ⟨SS, 0, none⟩) M M, .slice (some ⟨FF, 0, none⟩) M M, .slice (some ⟨ZZ, 0, none⟩) K K, .slice none 0 0, .int .i64 0, .int .i64 0, .int .i64 0] := by rw [hw5]; exact setL_loc [.slice A M cc, .slice A' K cd, .slice (some ⟨TT, 0, none⟩) M M, .slice (some ⟨SS, 0, none⟩) M M, .slice (some ⟨FF, 0, none⟩) M M, .slice (some ⟨ZZ, 0, none⟩) K K, .slice none 0 0, .int .i64 0, .int .i64 0, .int .i64 0] 0 w4 zPrg LP (show (10 : Nat) ≤ 10 by decide)
  have k45 : Keeps (fun b => b = P) w4 w5 := by rw [hw5]; exact setL_keeps [.slice A M cc, .slice A' K cd, .slice (some ⟨TT, 0, none⟩) M M, .slice (some ⟨SS, 0, none⟩) M M, .slice (some ⟨FF, 0, none⟩) M M, .slice (some ⟨ZZ, 0, none⟩) K K, .slice none 0 0, .int .i64 0, .int .i64 0, .int .i64 0] 0 w4
  have k35 : Keeps (fun _ => False) w3 w5 := by rw [hw5]; exact k5
  rw [← hw5']
  have hd := hdist
  simp only [List.nodup_cons, List.mem_cons, List.not_mem_nil, or_false, not_or] at hd
  obtain ⟨⟨d1, d2, d3, d4⟩, ⟨d5, d6, d7⟩, ⟨d8, d9⟩, d10, _⟩ := hd
  have rT := (LT.rowN).keepR LT.lt k45 (fun e => d1 e.symm)
  have rS := (LS.rowN).keepR LS.lt k45 (fun e => d2 e.symm)
  have rF := (LF.rowN).keepR LF.lt k45 (fun e => d3 e.symm)
  have rZ := (LZ.rowN).keepR LZ.lt k45 (fun e => d4 e.symm)
  obtain ⟨q, hq⟩ : ∃ q : CkQ, q = ⟨P, TT, SS, FF, ZZ, A, A', M, cc, K, cd⟩ := ⟨_, rfl⟩
  obtain ⟨R0, hR0⟩ : ∃ R0 : Nat → Prop, R0 = fun b => b = P ∨ b = TT ∨ b = SS ∨ b = FF ∨ b = ZZ := ⟨_, rfl⟩
  have hlt5 : ∀ b, R0 b → b < w5.heap.size := by
   rw [hR0]
   rintro b (rfl | rfl | rfl | rfl | rfl)
   ·exact LP5.lt
   ·exact Nat.lt_of_lt_of_le LT.lt k45.size
   ·exact Nat.lt_of_lt_of_le LS.lt k45.size
   ·exact Nat.lt_of_lt_of_le LF.lt k45.size
   ·exact Nat.lt_of_lt_of_le LZ.lt k45.size
  have hge3 : ∀ b, R0 b → w3.heap.size ≤ b := by
   rw [hR0]
   rintro b (rfl | rfl | rfl | rfl | rfl)
   ·exact Nat.le_of_not_lt LP5.out
   ·exact Nat.le_of_not_lt LT.out
   ·exact Nat.le_of_not_lt LS.out
   ·exact Nat.le_of_not_lt LF.out
   ·exact Nat.le_of_not_lt LZ.out
  have hge : ∀ b, R0 b → w.heap.size ≤ b := fun b hb => Nat.le_trans K3.out.size (hge3 b hb)
  have hup : Keeps (fun b => w.heap.size ≤ b) w w5 := (K3.out.trans k35 (fun _ _ h => h)).mono (fun _ _ h => h.elim)
  have CX : CkX w5 q nd fs w R0 (s01 M K 0) (.slice none 0 0) := by
   rw [hq]
   exact { c0 := LP5.cells 0 _ rfl, c1 := LP5.cells 1 _ rfl, c2 := LP5.cells 2 _ rfl, c3 := LP5.cells 3 _ rfl, c4 := LP5.cells 4 _ rfl, c5 := LP5.cells 5 _ rfl, c6 := LP5.cells 6 _ rfl, c7 := LP5.cells 7 _ rfl, c8 := LP5.cells 8 _ rfl, c9 := LP5.cells 9 _ rfl, fz := LP5.fz, hm := HM.out, hk := HK.out, lt := hlt5, rP := by (rw [hR0]; exact .inl rfl), rT := by (rw [hR0]; exact .inr (.inl rfl)), rS := by (rw [hR0]; exact .inr (.inr (.inl rfl))), rF := by (rw [hR0]; exact .inr (.inr (.inr (.inl rfl)))), rZ := by (rw [hR0]; exact .inr (.inr (.inr (.inr rfl)))), dist := hdist, tT := rT, tS := rS, tF := rF, tZ := rZ, lT := List.length_replicate, lS := by (show (List.replicate 0 (-1 : Int) ++ List.replicate (M - 0) 0).length = M; simp), lF := List.length_replicate, lZ := List.length_replicate, own := World.ownsRow_nil _ _ _ _, vb := fun g hg => by simp [Value.ownBlock] at hg, tree := HT.out, up := hup, hi := hge }
  have L15 := HL1.out.keeps k35
  have L25 := HL2.out.keeps k35
  have L1R : Loc w5 R0 P1 [.slice A M cc, .slice A' K cd] := ⟨L15.lt, fun h => absurd HL1.out.lt (Nat.not_lt.2 (hge3 _ h)), L15.cells, L15.fz⟩
  have L2R : Loc w5 R0 P2 [.slice none 0 0, .slice none 0 0, .slice none 0 0, .slice none 0 0, .slice none 0 0, .slice none 0 0] := ⟨L25.lt, fun h => absurd HL2.out.lt (Nat.not_lt.2 (hge3 _ h)), L25.cells, L25.fz⟩
  have HP1n : Hid (w.heap.size ≤ P2) := Lib.hid (by have h1 := HP1.out; have h2 := HP2.out; omega)
  have c2 := CX.c3
  rw [show q.P = P by rw [hq], show q.S = SS by rw [hq], show q.m = M by rw [hq]] at c2
  have HCK := Lib.hid (show Ck w5 q nd fs w R0 (s01 M K 0) from ⟨_, CX⟩)
  have HQP : Hid (q.P = P ∧ q.T = TT ∧ q.S = SS ∧ q.F = FF ∧ q.Z = ZZ ∧ q.A = A ∧ q.A' = A' ∧ q.m = M ∧ q.c = cc ∧ q.k = K ∧ q.c' = cd) := Lib.hid (by rw [hq]; exact ⟨rfl, rfl, rfl, rfl, rfl, rfl, rfl, rfl, rfl, rfl, rfl⟩)
  have HL1R := Lib.hid L1R
  have HL2R := Lib.hid L2R
  have HGE := Lib.hid hge
  have HUP := Lib.hid hup
  have HMM6 := Lib.hid hM6
  clear L15 L25 L1R L2R CX rT rS rF rZ hlt5 hge3 hge hup LT LS LF LZ LP LP5 k45 k35 hw5 hw5' k4 hSw4 p0 p1 p2 p3 p4 p5 p6 p7 p8 p9 g0 g1 g2 g3 g4 g5 g6 g7 g8 g9 d1 d2 d3 d4 d5 d6 d7 d8 d9 d10 hdist hR0 hq a0 a1 k5 HL1 HL2 HP1 HP2 K2 HB3 HmM HmK HZ
  go_wp2_with fail
  go_loopg [9, 41] (M + 1) (fun gq s9 s41 wr => ∃ i : Nat, s41 = .int .i64 i ∧ i + gq = M + 1 ∧ i ≤ M ∧ Ck wr q nd fs w R0 (s01 M K i) ∧ Fr R0 w5 R0 wr)
  case atStart => exact ⟨0, rfl, by omega, by omega, HCK.out, Fr.refl _ _⟩
  case round =>
   obtain ⟨i, rfl, hiq, hin1, hck, hfr⟩ := hrel
   have HIQ := Lib.hid hiq
   have HCKr := Lib.hid hck
   have HFR := Lib.hid hfr
   have e4 : (wr.cell? ⟨P, 3, none⟩ = some (.slice (some ⟨SS, 0, none⟩) M M)) := by
    obtain ⟨_, hx⟩ := hck
    have h := hx.c3
    rw [HQP.out.1, HQP.out.2.2.1, HQP.out.2.2.2.2.2.2.2.1] at h
    exact h
   have e2 : (wr.cell? ⟨P, 2, none⟩ = some (.slice (some ⟨TT, 0, none⟩) M M)) := by
    obtain ⟨_, hx⟩ := hck
    have h := hx.c2
    rw [HQP.out.1, HQP.out.2.1, HQP.out.2.2.2.2.2.2.2.1] at h
    exact h
   clear hiq hck hfr c2
   by_cases hin : i < M
   ·have hI : (i : Int) < (M : Int) := by omega
    have hdI : decide ((i : Int) < (M : Int)) = true := decide_eq_true hI
    have hi0 : (0 : Int) ≤ (i : Int) := by omega
    have wi : IntKind.i64.wrap ((i : Int) + 1) = (i : Int) + 1 := IntWalk.i64_in _ (by omega)
    have HIN := Lib.hid hin
    have hst := HCKr.out.setS i (-1) (by rw [HQP.out.2.2.2.2.2.2.2.1]; exact hin)
    rw [s01_set M K i hin, HQP.out.2.2.1] at hst
    obtain ⟨u, hu, hz⟩ : ∃ u, wr.cell? ⟨SS, i, none⟩ = some (.int .i64 u) ∧ wr.frozen? ⟨SS, i, none⟩ = false := by
     obtain ⟨_, hx⟩ := HCKr.out
     have h1 : i < (s01 M K i).sl.length := by rw [hx.lS, HQP.out.2.2.2.2.2.2.2.1]; exact hin
     have h2 := hx.tS.cell i _ (List.getElem?_eq_getElem h1)
     have h3 := hx.tS.fz i
     rw [HQP.out.2.2.1] at h2 h3
     exact ⟨_, h2, h3⟩
    have HC := Lib.hid hst.1
    have HF := Lib.hid (HFR.out.trans hst.2)
    clear hst hin hin1
    go_wp2_with fail
    go_roundg (gk - 1)
    case measure => go_light; have h1 := HIQ.out; have h2 := HIN.out; omega
    case rel => exact ⟨i + 1, by go_num, by have h1 := HIQ.out; have h2 := HIN.out; go_light; omega, by have h2 := HIN.out; go_light; omega, HC.out, HF.out⟩
   ·obtain rfl : M = i := by omega
    have hI : ¬ (M : Int) < (M : Int) := by omega
    have hdI : decide ((M : Int) < (M : Int)) = false := decide_eq_false hI
    obtain ⟨r, hfi, hrs⟩ := HFN.out q w HQP.out.2.2.2.2.2.2.2.1 HQP.out.2.2.2.2.2.2.2.2.2.1
    have HFI := Lib.hid hfi
    have HRS := Lib.hid hrs
    have HL1r := Lib.hid (HL1R.out.keep HFR.out)
    have HL2r := Lib.hid (HL2R.out.keep HFR.out)
    have HUPr := Lib.hid (HUP.out.trans HFR.out.1 (fun x hx h => HGE.out x h))
    have b1 := HL1r.out.cells 1 _ rfl
    clear hfi hrs hin hin1 e2 e4
    go_wp2_with fail
    clear b1
    obtain ⟨wo, hwo⟩ : ∃ wo, wo = wr := ⟨_, rfl⟩
    subst hwo
    obtain ⟨g0, hg0⟩ : ∃ g0, g0 = gk := ⟨_, rfl⟩
    subst hg0
    go_loopg [10, 53] (K + 1) (fun gq s10 s53 wr => ∃ (i : Nat) (R' : Nat → Prop) (s' : CkS), s53 = .int .i64 i ∧ i + gq = K + 1 ∧ i ≤ K ∧ Ck wr q nd fs w R' s' ∧ Fr R0 wo R' wr ∧ FunI q nd fs w i (K - i) s' r)
    case atStart => exact ⟨0, R0, _, rfl, by omega, by omega, HCKr.out, Fr.refl _ _, HFI.out⟩
    case round =>
     obtain ⟨i, R', s', rfl, hiq, hin1, hck, hfr, hfi⟩ := hrel
     have HIQ := Lib.hid hiq
     have HCK2 := Lib.hid hck
     have HFR2 := Lib.hid hfr
     have HFI2 := Lib.hid hfi
     have HL1q := Lib.hid (HL1r.out.keep hfr)
     have HL2q := Lib.hid (HL2r.out.keep hfr)
     have HUP2 := Lib.hid (HUPr.out.trans hfr.1 (fun x hx h => HGE.out x h))
     clear hiq hck hfr hfi
     by_cases hin : i < K
     ·have hI : (i : Int) < (K : Int) := by omega
      have hdI : decide ((i : Int) < (K : Int)) = true := decide_eq_true hI
      have hi0 : (0 : Int) ≤ (i : Int) := by omega
      have wi : IntKind.i64.wrap ((i : Int) + 1) = (i : Int) + 1 := IntWalk.i64_in _ (by omega)
      have HIN := Lib.hid hin
      have HCL : Hid ((∃ s1, FunC q nd fs w i s' (.ok s1) ∧ FunI q nd fs w (i + 1) (K - (i + 1)) s1 r) ∨ (∃ z, r = .error z ∧ FunC q nd fs w i s' (.error z))) := Lib.hid (by
       have h := HFI2.out
       rw [show K - i = (K - (i + 1)) + 1 by omega] at h
       cases h with
       | ok _ _ _ s1 _ h1 h2 => exact .inl ⟨s1, h1, h2⟩
       | bad _ _ _ z h1 => exact .inr ⟨z, rfl, h1⟩)
      clear hin hin1
      rcases HCL.out with ⟨s1, h1, h2⟩ | ⟨z, hz, h1⟩
      ·have NC := Lib.hid (h1 _ _ HCK2.out)
       rw [HQP.out.1] at NC
       have H2 := Lib.hid h2
       clear h1 h2 HCL
       go_wp2_with fail
       refine NC.out.mono ?_
       rintro e w7 ⟨R2, s2, hp, hf, rfl, rfl⟩
       have HC3 := Lib.hid hp
       have HF3 := Lib.hid (HFR2.out.trans hf)
       clear hp hf NC
       go_wp2_with fail
       go_roundg (gk - 1)
       case measure => go_light; have h1 := HIQ.out; have h2 := HIN.out; omega
       case rel => exact ⟨i + 1, R2, s2, by go_num, by have h1 := HIQ.out; have h2 := HIN.out; go_light; omega, by have h2 := HIN.out; go_light; omega, HC3.out, HF3.out, H2.out⟩
      ·have NC := Lib.hid (h1 _ _ HCK2.out)
       rw [HQP.out.1] at NC
       have HZ := Lib.hid hz
       clear h1 hz HCL
       go_wp2_with fail
       refine NC.out.mono ?_
       rintro e w7 ⟨R2, s2, hp, hf, rfl, hb1, hb2⟩
       obtain ⟨_, hx⟩ := hp
       have y8 := hx.c8
       have y9 := hx.c9
       rw [HQP.out.1] at y8 y9
       rw [hb1] at y8
       rw [hb2] at y9
       have L2 := HL2q.out.keep hf
       have f0 := L2.cells 0 _ rfl
       have f1 := L2.cells 1 _ rfl
       have f2 := L2.cells 2 _ rfl
       have f3 := L2.cells 3 _ rfl
       have f4 := L2.cells 4 _ rfl
       have f5 := L2.cells 5 _ rfl
       have g0 := L2.fz 0
       have g1 := L2.fz 1
       have g2 := L2.fz 2
       have g3 := L2.fz 3
       have g4 := L2.fz 4
       have g5 := L2.fz 5
       have hne : ¬ P2 = P := fun e => L2.out (by rw [e, ← HQP.out.1]; exact hx.rP)
       have hne2 : ¬ P = P2 := fun e => hne e.symm
       obtain ⟨zb, hzb⟩ : ∃ t, t = z.1 := ⟨_, rfl⟩
       obtain ⟨ze, hze⟩ : ∃ t, t = z.2 := ⟨_, rfl⟩
       rw [← hzb] at y8
       rw [← hze] at y9
       have HRE : Hid (∃ zz : Int × Nat, res = .error zz ∧ zb = zz.1 ∧ ze = (zz.2 : Int)) := Lib.hid (by
        have h := HRS.out
        rw [HZ.out] at h
        cases hr : res with
        | ok x => rw [hr] at h; exact h.elim
        | error zz => rw [hr] at h; have h : z = (zz.1, (zz.2 : Int)) := h; exact ⟨zz, rfl, by rw [hzb, h], by rw [hze, h]⟩)
       have FIN : Hid (∀ w', Keeps (fun b => b = P2) w7 w' → Keeps (fun _ => False) w w') := Lib.hid (fun w' k => kback ((HUP2.out.trans hf.1 (fun x hx h => HGE.out x (HFR2.out.2 x (Nat.lt_of_lt_of_le hx HUPr.out.size) h))).trans k (fun x hx e => by rw [e]; exact HP1n.out)) rfl)
       clear hx hb1 hb2 hf NC L2 hzb hze
       go_wp2_with fail
       go_region
       all_goals go_wp2_with fail
       all_goals (try simp only [Exit.inBlock, Exit.then])
       all_goals refine bodyPost_ret (v := .tuple #[noPrg, .int .i64 zb, .int .i64 ze]) ?_ rfl ?_
       all_goals first | (rw [results_cell_tmp3 rfl]; go_simp; done) | (rw [results_cell_tmp3 rfl]; go_simp; rfl) | skip
       all_goals obtain ⟨zz, e1, e2, e3⟩ := HRE.out
       all_goals rw [e1]
       all_goals exact ⟨FIN.out _ ((setL_keeps (P := P2) [.slice none 0 0, .slice none 0 0, .slice none 0 0, .slice none 0 0, .slice none 0 0, .slice none 0 0] 0 w7).drew), by show _ = _; rw [e2, e3]⟩
     ·obtain rfl : K = i := by omega
      have hI : ¬ (K : Int) < (K : Int) := by omega
      have hdI : decide ((K : Int) < (K : Int)) = false := decide_eq_false hI
      have hr : r = .ok s' := by
       have h := HFI2.out
       rw [Nat.sub_self] at h
       cases h
       rfl
      obtain ⟨_, hx⟩ := HCK2.out
      have y0 := hx.c0
      have y1 := hx.c1
      have y2 := hx.c2
      have y3 := hx.c3
      have y4 := hx.c4
      have y5 := hx.c5
      simp only [HQP.out.1, HQP.out.2.1, HQP.out.2.2.1, HQP.out.2.2.2.1, HQP.out.2.2.2.2.1, HQP.out.2.2.2.2.2.1, HQP.out.2.2.2.2.2.2.1, HQP.out.2.2.2.2.2.2.2.1, HQP.out.2.2.2.2.2.2.2.2.1, HQP.out.2.2.2.2.2.2.2.2.2.1, HQP.out.2.2.2.2.2.2.2.2.2.2] at y0 y1 y2 y3 y4 y5
      have L2 := HL2q.out
      have f0 := L2.cells 0 _ rfl
      have f1 := L2.cells 1 _ rfl
      have f2 := L2.cells 2 _ rfl
      have f3 := L2.cells 3 _ rfl
      have f4 := L2.cells 4 _ rfl
      have f5 := L2.cells 5 _ rfl
      have g0 := L2.fz 0
      have g1 := L2.fz 1
      have g2 := L2.fz 2
      have g3 := L2.fz 3
      have g4 := L2.fz 4
      have g5 := L2.fz 5
      have hne : ¬ P2 = P := fun e => L2.out (by rw [e, ← HQP.out.1]; exact hx.rP)
      have hne2 : ¬ P = P2 := fun e => hne e.symm
      have HRE : Hid (∃ x : List Nat × List Tri, res = .ok x ∧ x.1.length = K ∧ x.2.length = M ∧ s'.ty = x.2.map Tri.t ∧ s'.sl = x.2.map Tri.s ∧ s'.ff = x.2.map Tri.f ∧ s'.sz = x.1.map (fun n : Nat => (n : Int))) := Lib.hid (by
       have h := HRS.out
       rw [hr] at h
       cases he : res with
       | error z => rw [he] at h; exact h.elim
       | ok x =>
        rw [he] at h
        obtain ⟨t1, t2, t3, t4⟩ := h
        obtain ⟨l1, l2⟩ := HRES.out x he
        refine ⟨x, rfl, l1, l2, ?_, ?_, ?_, ?_⟩
        ·rw [t1]; exact ovr_all _ _ (by rw [List.length_map, l2]; exact List.length_replicate.symm)
        ·rw [t2]; exact ovr_all _ _ (by rw [List.length_map, l2]; show M = (List.replicate M (-1 : Int) ++ List.replicate (M - M) 0).length; simp)
        ·rw [t3]; exact ovr_all _ _ (by rw [List.length_map, l2]; exact List.length_replicate.symm)
        ·rw [t4]; exact ovr_all _ _ (by rw [List.length_map, l1]; exact List.length_replicate.symm))
      have nT : ¬ P2 = TT := fun e => L2.out (by rw [e, ← HQP.out.2.1]; exact hx.rT)
      have nS : ¬ P2 = SS := fun e => L2.out (by rw [e, ← HQP.out.2.2.1]; exact hx.rS)
      have nF : ¬ P2 = FF := fun e => L2.out (by rw [e, ← HQP.out.2.2.2.1]; exact hx.rF)
      have nZ : ¬ P2 = ZZ := fun e => L2.out (by rw [e, ← HQP.out.2.2.2.2.1]; exact hx.rZ)
      have FIN : Hid (∀ w', Keeps (fun b => b = P2) wr w' → CkOut nd fs res w (.returned (.tuple #[.agg #[.slice A M cc, .slice A' K cd, .slice (some ⟨TT, 0, none⟩) M M, .slice (some ⟨SS, 0, none⟩) M M, .slice (some ⟨FF, 0, none⟩) M M, .slice (some ⟨ZZ, 0, none⟩) K K], .int .i64 0, .int .i64 0])) w') := Lib.hid (fun w' k => by
       have kk : Keeps (fun _ => False) w w' := kback (HUP2.out.trans k (fun x hx e => by rw [e]; exact HP1n.out)) rfl
       obtain ⟨x, e1, l1, l2, t1, t2, t3, t4⟩ := HRE.out
       rw [e1]
       refine ⟨kk, _, rfl, A, A', cc, cd, some ⟨TT, 0, none⟩, some ⟨SS, 0, none⟩, some ⟨FF, 0, none⟩, some ⟨ZZ, 0, none⟩, M, M, M, K, by rw [l1, l2, ← HM.out, ← HK.out], HT.out.keep kk, HCP.out.keep kk, ?_, ?_, ?_, ?_⟩
       ·have h := hx.tT.keepR (hx.lt _ hx.rT) k (fun e => nT (by rw [← HQP.out.2.1]; exact e.symm))
        rw [HQP.out.2.1, t1] at h
        exact h.rd
       ·have h := hx.tS.keepR (hx.lt _ hx.rS) k (fun e => nS (by rw [← HQP.out.2.2.1]; exact e.symm))
        rw [HQP.out.2.2.1, t2] at h
        exact h.rd
       ·have h := hx.tF.keepR (hx.lt _ hx.rF) k (fun e => nF (by rw [← HQP.out.2.2.2.1]; exact e.symm))
        rw [HQP.out.2.2.2.1, t3] at h
        exact h.rd
       ·have h := hx.tZ.keepR (hx.lt _ hx.rZ) k (fun e => nZ (by rw [← HQP.out.2.2.2.2.1]; exact e.symm))
        rw [HQP.out.2.2.2.2.1, t4] at h
        exact h.rd)
      clear hx L2 nT nS nF nZ hr hin hin1
      go_wp2_with fail
      (try simp only [Exit.inBlock, Exit.then])
      refine bodyPost_ret (v := .tuple #[.agg #[.slice A M cc, .slice A' K cd, .slice (some ⟨TT, 0, none⟩) M M, .slice (some ⟨SS, 0, none⟩) M M, .slice (some ⟨FF, 0, none⟩) M M, .slice (some ⟨ZZ, 0, none⟩) K K], .int .i64 0, .int .i64 0]) ?_ rfl ?_
      ·rw [results_cell_tmp3 rfl]
       go_simp
      ·first | exact FIN.out _ (setL_keeps (P := P2) [.slice A M cc, .slice A' K cd, .slice (some ⟨TT, 0, none⟩) M M, .slice (some ⟨SS, 0, none⟩) M M, .slice (some ⟨FF, 0, none⟩) M M, .slice (some ⟨ZZ, 0, none⟩) K K] 0 wr) | exact FIN.out _ ((setL_keeps (P := P2) [.slice A M cc, .slice A' K cd, .slice (some ⟨TT, 0, none⟩) M M, .slice (some ⟨SS, 0, none⟩) M M, .slice (some ⟨FF, 0, none⟩) M M, .slice (some ⟨ZZ, 0, none⟩) K K] 0 wr).drew)
end Go.Proofs.YtbhpnioggpgbhaaGreatDoor
