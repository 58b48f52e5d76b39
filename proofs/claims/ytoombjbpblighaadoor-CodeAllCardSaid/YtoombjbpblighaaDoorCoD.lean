/-
  Layer 8: the contracts of the document's example and of few. Written by an AI agent.
-/
import Derived.Test.YtoombjbpblighaaDoorCoC
namespace Go.Proofs.YtoombjbpblighaaDoor
open Go Go.RowKit Go.Shelf
set_option linter.unusedVariables false
set_option linter.unusedSimpArgs false

theorem shown8_line : lineN 5 2 1 [] = [108, 111, 97, 100, 32, 50, 32, 49] := by decide +kernel
set_option maxHeartbeats 1000000 in
theorem shown8_any (w : World) (hw : CodeW w) : Calls Tryd.prog 25 #[] w fun e w' => e = .returned (.bool true) ∧ Keeps (fun _ => False) w w' := by
  have h := cline_any 5 2 1 { data := #[] } (by omega) (by omega) (by omega) (by omega) (by omega) (by omega) (by decide) w hw
  rw [show ({ data := #[] } : ByteArray).data.toList = [] from rfl, shown8_line] at h
  have H := Lib.hid h
  clear h hw
  go_enter Tryd.func25, Tryd.ntmps25
  go_wp2_with fail
  refine H.out.mono ?_
  rintro e w1 ⟨rfl, k1⟩
  have K1 := Lib.hid k1
  have q : ((ofL [108, 111, 97, 100, 32, 50, 32, 49]).toList == [108, 111, 97, 100, 32, 50, 32, 49]) = true := by rw [toList_data, ofL_list]; simp
  clear k1 H
  go_wp2
  go_ret
  exact ⟨rfl, K1.out⟩

structure Ins where
  o : Int
  a : Int
  b : Int
  s : ByteArray
instance : Inhabited Ins := ⟨⟨0, 0, 0, { data := #[] }⟩⟩
def Ins.cells (x : Ins) : List Value := [.int .i64 x.o, .int .i64 x.a, .int .i64 x.b, .string x.s]
def Ins.few (x : Ins) : Ins := ⟨x.o, x.a, x.b, if 50 < x.s.size then x.s.extract 0 50 else x.s⟩
def flatI (L : List Ins) : List Value := L.flatMap Ins.cells
theorem flatI_append (L M : List Ins) : flatI (L ++ M) = flatI L ++ flatI M := by simp [flatI]
theorem flatI_one (L : List Ins) : ∀ u ∈ flatI L, u.oneCell' = true := by
  intro u h
  simp only [flatI, List.mem_flatMap, Ins.cells, List.mem_cons, List.not_mem_nil, or_false] at h
  obtain ⟨x, _, rfl | rfl | rfl | rfl⟩ := h <;> rfl
theorem Ins.one (x : Ins) : ∀ u ∈ x.cells, u.oneCell' = true := by
  intro u h
  simp only [Ins.cells, List.mem_cons, List.not_mem_nil, or_false] at h
  rcases h with rfl | rfl | rfl | rfl <;> rfl
theorem flatI_at (L : List Ins) (i : Nat) (h : i < L.length) : (flatI L)[i * 4]? = some (.int .i64 (L.getD i default).o) ∧ (flatI L)[i * 4 + 1]? = some (.int .i64 (L.getD i default).a) ∧ (flatI L)[i * 4 + 2]? = some (.int .i64 (L.getD i default).b) ∧ (flatI L)[i * 4 + 3]? = some (.string (L.getD i default).s) := by
  induction L generalizing i with
  | nil => simp at h
  | cons a L ih =>
    cases i with
    | zero => simp [flatI, Ins.cells]
    | succ i =>
      have h2 := ih i (by simpa using h)
      have e : flatI (a :: L) = a.cells ++ flatI L := by simp [flatI]
      have hl : a.cells.length = 4 := rfl
      rw [e]
      simp only [List.getD_cons_succ]
      rw [List.getElem?_append_right (by rw [hl]; omega), List.getElem?_append_right (by rw [hl]; omega), List.getElem?_append_right (by rw [hl]; omega), List.getElem?_append_right (by rw [hl]; omega), hl]
      rw [show (i + 1) * 4 - 4 = i * 4 by omega, show (i + 1) * 4 + 1 - 4 = i * 4 + 1 by omega, show (i + 1) * 4 + 2 - 4 = i * 4 + 2 by omega, show (i + 1) * 4 + 3 - 4 = i * 4 + 3 by omega]
      exact h2
theorem info52 : (Tryd.prog.info? 52).map (fun i => (i.zero, i.size, i.bytes)) = some (some (.agg #[.int .i64 0, .int .i64 0, .int .i64 0, .string ⟨#[]⟩]), 4, 40) := by kernel_rfl
theorem news4 {w : World} {s : Nat} (x : Ins) (t : TypeId) (hs : w.heap.size = s) : ∀ j u, x.cells[j]? = some u → (w.alloc (.cells x.cells.toArray t)).cell? ((⟨s, 0, none⟩ : Addr).add j) = some u := by
  intro j u h
  subst hs
  have e : (⟨w.heap.size, 0, none⟩ : Addr).add j = ⟨w.heap.size, j, none⟩ := by unfold Addr.add; split <;> simp_all
  rw [e]
  have hj : j < 4 := (List.getElem?_eq_some_iff.1 h).1
  match j, hj with
  | 0, _ => simpa [Ins.cells] using h
  | 1, _ => simpa [Ins.cells] using h
  | 2, _ => simpa [Ins.cells] using h
  | 3, _ => simpa [Ins.cells] using h

/-- Instructions that lie at a slice's cells. -/
def RdI (w : World) (A : Option Addr) (L : List Ins) : Prop := 0 < L.length → ∃ b off, A = some ⟨b, off, none⟩ ∧ ∀ k, k < L.length →
  w.cell? ⟨b, off + k * 4, none⟩ = some (.int .i64 (L.getD k default).o) ∧ w.cell? ⟨b, off + k * 4 + 1, none⟩ = some (.int .i64 (L.getD k default).a) ∧ w.cell? ⟨b, off + k * 4 + 2, none⟩ = some (.int .i64 (L.getD k default).b) ∧ w.cell? ⟨b, off + k * 4 + 3, none⟩ = some (.string (L.getD k default).s)
theorem RdI.cellsAt {w : World} {A : Option Addr} {L : List Ins} (h : RdI w A L) {i : Nat} (hi : i < L.length) : ∃ b off, A = some ⟨b, off, none⟩ ∧ b < w.heap.size ∧ ∀ wq : World, (wq.heap[b]? = w.heap[b]?) →
    wq.cell? ⟨b, off + i * 4, none⟩ = some (.int .i64 (L.getD i default).o) ∧ wq.cell? ⟨b, off + i * 4 + 1, none⟩ = some (.int .i64 (L.getD i default).a) ∧ wq.cell? ⟨b, off + i * 4 + 2, none⟩ = some (.int .i64 (L.getD i default).b) ∧ wq.cell? ⟨b, off + i * 4 + 3, none⟩ = some (.string (L.getD i default).s) := by
  obtain ⟨b, off, e, hc⟩ := h (by omega)
  obtain ⟨c0, c1, c2, c3⟩ := hc i hi
  exact ⟨b, off, e, cell_ltk c0, fun wq k => ⟨(World.cell?_of_block (w := w) k).trans c0, (World.cell?_of_block (w := w) k).trans c1, (World.cell?_of_block (w := w) k).trans c2, (World.cell?_of_block (w := w) k).trans c3⟩⟩

/-- Few of the code, so far. -/
structure OutF (w : World) (B : Nat) (inV v Ev : Value) (L : List Ins) : Prop where
  c1 : w.cell? ⟨B, 0, none⟩ = some inV
  a0 : w.cell? ⟨B + 1, 0, none⟩ = some (.slice none 0 0)
  a1 : w.cell? ⟨B + 1, 1, none⟩ = some (.slice none 0 0)
  fa0 : w.frozen? ⟨B + 1, 0, none⟩ = false
  fa1 : w.frozen? ⟨B + 1, 1, none⟩ = false
  o0 : w.cell? ⟨B + 2, 0, none⟩ = some v
  o1 : w.cell? ⟨B + 2, 1, none⟩ = some Ev
  fo0 : w.frozen? ⟨B + 2, 0, none⟩ = false
  own : w.ownsRow 0 52 4 v L.length (flatI L)
  hb : ∀ g, v.ownBlock = some g → B + 3 ≤ g
theorem OutF.sz {w : World} {B : Nat} {inV v Ev : Value} {L : List Ins} (h : OutF w B inV v Ev L) : B + 3 ≤ w.heap.size := by
  have := cell_ltk h.o0
  omega
theorem own_of4 {w : World} {v : Value} {n : Nat} {xs : List Value} (h : w.ownsRow 0 52 4 v n xs) {w' : World} (hk : Keeps (fun _ => False) w w') : w'.ownsRow 0 52 4 v n xs := ownsRow_keep h fun k hk2 => hk.block k (own_ltk h hk2) (fun h => h)
theorem OutF.keep {w w' : World} {B : Nat} {inV v Ev : Value} {L : List Ins} (h : OutF w B inV v Ev L) (hk : Keeps (fun _ => False) w w') : OutF w' B inV v Ev L := by
  have hsz := h.sz
  have hc : ∀ p o, p < B + 3 → w'.cell? ⟨p, o, none⟩ = w.cell? ⟨p, o, none⟩ := fun p o hp => hk.cell (by omega) (fun h => h)
  have hf : ∀ p o, p < B + 3 → w'.frozen? ⟨p, o, none⟩ = w.frozen? ⟨p, o, none⟩ := fun p o hp => hk.frozen (by omega) (fun h => h)
  exact ⟨(hc _ _ (by omega)).trans h.c1, (hc _ _ (by omega)).trans h.a0, (hc _ _ (by omega)).trans h.a1, (hf _ _ (by omega)).trans h.fa0, (hf _ _ (by omega)).trans h.fa1, (hc _ _ (by omega)).trans h.o0, (hc _ _ (by omega)).trans h.o1, (hf _ _ (by omega)).trans h.fo0, own_of4 h.own hk, h.hb⟩
/-- One more. -/
theorem OutF.more {w w5 : World} {B : Nat} {inV v Ev v5 : Value} {L : List Ins} (h : OutF w B inV v Ev L) (x : Ins) {w1 : World} (hk : Keeps (fun _ => False) w w1) (ho : w5.ownsRow 0 52 4 v5 (L.length + 1) (flatI L ++ x.cells)) (hg : w1.grownBy w5 v.ownBlock) (hb : v5.ownBlock = v.ownBlock ∨ v5.ownBlock = some w1.heap.size) :
    OutF (w5.setCell ⟨B + 2, 0, none⟩ v5) B inV v5 Ev (L ++ [x]) ∧ Keeps (fun b => B ≤ b) w (w5.setCell ⟨B + 2, 0, none⟩ v5) ∧ w5.cell? ⟨B + 2, 0, none⟩ = some v ∧ w5.frozen? ⟨B + 2, 0, none⟩ = false := by
  have hsz := h.sz
  have k5 : Keeps (fun b => some b = v.ownBlock) w w5 := (hk.mono (T := fun b => some b = v.ownBlock) (fun _ _ h => h.elim)).grown hg fun k e _ => e.symm
  have hno : ∀ p, p < B + 3 → ¬ some p = v.ownBlock := fun p hp e => by have := h.hb p e.symm; omega
  have hc : ∀ p o, p < B + 3 → w5.cell? ⟨p, o, none⟩ = w.cell? ⟨p, o, none⟩ := fun p o hp => k5.cell (by omega) (hno p hp)
  have hf : ∀ p o, p < B + 3 → w5.frozen? ⟨p, o, none⟩ = w.frozen? ⟨p, o, none⟩ := fun p o hp => k5.frozen (by omega) (hno p hp)
  have s1 := hk.size
  have hb5 : ∀ g, v5.ownBlock = some g → B + 3 ≤ g := fun g hg2 => by
    rcases hb with e | e
    · exact h.hb g (e ▸ hg2)
    · rw [e] at hg2
      have : w1.heap.size = g := Option.some.inj hg2
      omega
  have c1 : w5.cell? ⟨B + 2, 0, none⟩ = some v := (hc _ _ (by omega)).trans h.o0
  refine ⟨⟨(cell_other w5 0 0 _ (.inr (by omega))).trans ((hc _ _ (by omega)).trans h.c1), (cell_other w5 0 0 _ (.inr (by omega))).trans ((hc _ _ (by omega)).trans h.a0), (cell_other w5 0 1 _ (.inr (by omega))).trans ((hc _ _ (by omega)).trans h.a1),
    by rw [World.frozen?_setCell]; exact (hf _ _ (by omega)).trans h.fa0, by rw [World.frozen?_setCell]; exact (hf _ _ (by omega)).trans h.fa1, cell_same w5 _ _ _ _ c1, (cell_other w5 0 1 _ (.inl (by omega))).trans ((hc _ _ (by omega)).trans h.o1),
    by rw [World.frozen?_setCell]; exact (hf _ _ (by omega)).trans h.fo0, ?_, hb5⟩, ?_, c1, (hf _ _ (by omega)).trans h.fo0⟩
  · rw [List.length_append, flatI_append]
    refine ownsRow_keep (by simpa [flatI] using ho) (fun k hk => Below.heap_setCell w5 _ _ k (fun e => by have := hb5 k hk; have e : k = B + 2 := e; omega))
  · exact ((k5.mono (T := fun b => B ≤ b) (fun b _ e => by have := h.hb b e.symm; omega))).setCell (fun _ => by show B ≤ B + 2; omega) _

theorem cell_under (w : World) (o : Obj) {p : Nat} (i : Nat) (h : p < w.heap.size) : (w.alloc o).cell? ⟨p, i, none⟩ = w.cell? ⟨p, i, none⟩ := ((Keeps.refl (fun _ => False) w).alloc o).cell h (fun h => h)
theorem frozen_under (w : World) (o : Obj) {p : Nat} (i : Nat) (h : p < w.heap.size) : (w.alloc o).frozen? ⟨p, i, none⟩ = w.frozen? ⟨p, i, none⟩ := ((Keeps.refl (fun _ => False) w).alloc o).frozen h (fun h => h)
theorem two_new (w : World) (x y : Value) (t : TypeId) {p : Nat} (h : w.heap.size = p) : (w.alloc (.cells #[x, y] t)).cell? ⟨p, 0, none⟩ = some x ∧ (w.alloc (.cells #[x, y] t)).cell? ⟨p, 1, none⟩ = some y ∧ (w.alloc (.cells #[x, y] t)).frozen? ⟨p, 0, none⟩ = false ∧ (w.alloc (.cells #[x, y] t)).frozen? ⟨p, 1, none⟩ = false := by
  subst h
  exact ⟨by simp, by simp, by simp, by simp⟩
theorem outF_start (w : World) (inV e Ev : Value) : OutF (((w.alloc (.cells #[inV, e] 41)).alloc (.cells #[.slice none 0 0, .slice none 0 0] 41)).alloc (.cells #[.slice none 0 0, Ev] 41)) w.heap.size inV (.slice none 0 0) Ev [] ∧
    Keeps (fun b => w.heap.size ≤ b) w (((w.alloc (.cells #[inV, e] 41)).alloc (.cells #[.slice none 0 0, .slice none 0 0] 41)).alloc (.cells #[.slice none 0 0, Ev] 41)) := by
  obtain ⟨p0, p1, p2, p3⟩ := two_new w inV e 41 rfl
  obtain ⟨q0, q1, q2, q3⟩ := two_new (w.alloc (.cells #[inV, e] 41)) (.slice none 0 0) (.slice none 0 0) 41 (p := w.heap.size + 1) (by simp)
  obtain ⟨r0, r1, r2, r3⟩ := two_new ((w.alloc (.cells #[inV, e] 41)).alloc (.cells #[.slice none 0 0, .slice none 0 0] 41)) (.slice none 0 0) Ev 41 (p := w.heap.size + 2) (by simp)
  refine ⟨⟨(cell_under _ _ _ (by simp; omega)).trans ((cell_under _ _ _ (by simp)).trans p0), (cell_under _ _ _ (by simp)).trans q0, (cell_under _ _ _ (by simp)).trans q1, (frozen_under _ _ _ (by simp)).trans q2, (frozen_under _ _ _ (by simp)).trans q3, r0, r1, r2, World.ownsRow_nil _ _ _ _, fun g hg => by simp [Value.ownBlock] at hg⟩, (((Keeps.refl _ _).alloc _).alloc _).alloc _⟩

theorem results_cell1 {fn : Func} {p : Tmp} {ty : TypeId} (h : fn.results = #[.cell p ty]) (tmps : Array Value) (P : Program) (w : World) :
    (results fn tmps).run P w = ((asAddr (tmps.getD p undef)).run P w).andThen fun a w₁ => (loadVar ty a).run P w₁ := by
  simp only [results, h]
  simp [Sem.run_bind, Result.andThen]

set_option maxRecDepth 100000 in
set_option maxHeartbeats 8000000 in
theorem few_any (I : Option Addr) (c : Nat) (L : List Ins) (E : Option Addr) (m d : Nat) (hmd : m ≤ d) (hd : d ≤ 9223372036854775807) (hL : L.length ≤ 9223372036854775807) (w : World) (hI : RdI w I L) :
    Calls Tryd.prog 26 #[.agg #[.slice I L.length c, .slice E m d]] w fun e w' => (∃ A c', e = .returned (.agg #[.slice A (min L.length 40) c', .slice E (min m 8) d]) ∧ w'.ownsRow 0 52 4 (.slice A (min L.length 40) c') (min L.length 40) (flatI ((L.take 40).map Ins.few)) ∧ (∀ g, (Value.slice A (min L.length 40) c').ownBlock = some g → w.heap.size ≤ g)) ∧ Keeps (fun _ => False) w w' := by
  obtain ⟨i0, hi, hz0, hz1, hz2⟩ := info_parts info52
  have HI := Lib.hid hI
  obtain ⟨N, hN⟩ : ∃ N, N = L.length := ⟨_, rfl⟩
  rw [← hN] at hL ⊢
  have HN := Lib.hid hN
  obtain ⟨B, hB⟩ : ∃ B, B = w.heap.size := ⟨_, rfl⟩
  have HB := Lib.hid hB
  clear hI hN hB
  obtain ⟨q, hq⟩ : ∃ q, q = min N 40 := ⟨_, rfl⟩
  obtain ⟨me, hme⟩ : ∃ me, me = min m 8 := ⟨_, rfl⟩
  rw [← hq, ← hme]
  have HQ := Lib.hid hq
  have HME := Lib.hid hme
  clear hq hme
  go_enter Tryd.func26, Tryd.ntmps26
  go_upto_if 12 with fail
  go_cut [1, 2, 3] from 12 to 16 (fun s1 s2 s3 wx => s1 = .pointer (some ⟨B, 0, none⟩) ∧ s2 = .pointer (some ⟨B + 1, 0, none⟩) ∧ s3 = .pointer (some ⟨B + 2, 0, none⟩) ∧ OutF wx B (.slice I N c) (.slice none 0 0) (.slice E (me) d) [] ∧ Keeps (fun b => B ≤ b) w wx)
  case first =>
    have hB := HB.out
    subst hB
    have h8d : (8 : Int) ≤ (d : Int) ∨ ¬ (8 : Int) < (m : Int) := by omega
    by_cases h : 8 < m
    · have hI8 : (8 : Int) < (m : Int) := by omega
      have hd8 : decide ((8 : Int) < (m : Int)) = true := decide_eq_true hI8
      have hd9 : (8 : Int) ≤ (d : Int) := by omega
      have E8 : Hid (me = 8) := Lib.hid (by rw [HME.out]; omega)
      clear h h8d
      go_wp2
      go_meet
      rw [E8.out]
      exact ⟨rfl, rfl, rfl, (outF_start w _ _ _).1, (outF_start w _ _ _).2⟩
    · have hI8 : ¬ (8 : Int) < (m : Int) := by omega
      have hd8 : decide ((8 : Int) < (m : Int)) = false := decide_eq_false hI8
      have E8 : Hid (me = m) := Lib.hid (by rw [HME.out]; omega)
      clear h h8d
      go_wp2
      go_meet
      rw [E8.out]
      exact ⟨rfl, rfl, rfl, (outF_start w _ _ _).1, (outF_start w _ _ _).2⟩
  case rest =>
    obtain ⟨rfl, rfl, rfl, ho, kc⟩ := hcut
    have HO := Lib.hid ho
    have KC := Lib.hid kc
    clear ho kc
    go_wp2_with fail
    go_loopw [4] (fun s4 wr => ∃ (i : Nat) (v : Value), i ≤ N ∧ i ≤ 40 ∧ s4 = .int .i64 i ∧ OutF wr B (.slice I N c) v (.slice E (me) d) ((L.take i).map Ins.few) ∧ Keeps (fun b => B ≤ b) w wr) (fun s4 _ => 41 - (intOf s4).toNat)
    case atStart => exact ⟨0, _, Nat.zero_le _, Nat.zero_le _, rfl, HO.out, KC.out⟩
    case round =>
      obtain ⟨i, v, hiN, hi40, rfl, ho, kr⟩ := hrel
      by_cases h1 : i < N
      · by_cases h2 : i < 40
        · have h1I : (i : Int) < (N : Int) := by omega
          have h2I : (i : Int) < 40 := by omega
          have h1d : decide ((i : Int) < (N : Int)) = true := decide_eq_true h1I
          have h2d : decide ((i : Int) < 40) = true := decide_eq_true h2I
          have hi0 : (0 : Int) ≤ (i : Int) := by omega
          obtain ⟨bi, oi, rfl, hbi, hci⟩ := HI.out.cellsAt (i := i) (by rw [← HN.out]; exact h1)
          have hbB : bi < B := by rw [HB.out]; exact hbi
          obtain ⟨x, hx⟩ : ∃ x : Ins, x = L.getD i default := ⟨_, rfl⟩
          have hnx : (L.take (i + 1)).map Ins.few = (L.take i).map Ins.few ++ [x.few] := by
            rw [List.take_succ_eq_append_getElem (by rw [← HN.out]; exact h1), List.map_append, hx]
            simp [List.getD, show i < L.length by rw [← HN.out]; exact h1]
          rw [← hx] at hci
          obtain ⟨x0, x1, x2, x3⟩ := x
          obtain ⟨d0, d1, d2, d3⟩ := hci wr (kr.block bi hbi (by omega))
          dsimp only at d0 d1 d2 d3
          have hbi2 := cell_ltk d0
          have hsz := ho.sz
          have c1 := ho.c1
          have HO2 := Lib.hid ho
          have KR := Lib.hid kr
          have HNX := Lib.hid hnx
          clear hci hx ho kr hnx
          obtain ⟨F, hF⟩ : ∃ F : ByteArray, F = (Ins.few ⟨x0, x1, x2, x3⟩).s := ⟨_, rfl⟩
          have hfc : (Ins.few ⟨x0, x1, x2, x3⟩).cells = [.int .i64 x0, .int .i64 x1, .int .i64 x2, .string F] := by rw [hF]; rfl
          have HFC := Lib.hid hfc
          have HF := Lib.hid hF
          clear hfc hF
          go_upto_if 36 with fail
          go_cut [5] from 36 to 40 (fun s5 wx => s5 = .pointer (some ⟨wr.heap.size, 0, none⟩) ∧ wx = wr.alloc (.cells #[.int .i64 x0, .int .i64 x1, .int .i64 x2, .string F] 52))
          case first =>
            by_cases h50 : 50 < x3.size
            · have h50I : (50 : Int) < (x3.size : Int) := by omega
              have h50d : decide ((50 : Int) < (x3.size : Int)) = true := decide_eq_true h50I
              have h50J : (50 : Int) ≤ (x3.size : Int) := by omega
              have HFE : Hid (F = x3.extract 0 50) := Lib.hid (by rw [HF.out]; show (if 50 < x3.size then _ else _) = _; rw [if_pos h50])
              clear h50
              go_wp2
              go_meet
              exact ⟨rfl, by rw [HFE.out]⟩
            · have h50I : ¬ (50 : Int) < (x3.size : Int) := by omega
              have h50d : decide ((50 : Int) < (x3.size : Int)) = false := decide_eq_false h50I
              have HFE : Hid (F = x3) := Lib.hid (by rw [HF.out]; show (if 50 < x3.size then _ else _) = _; rw [if_neg h50])
              clear h50
              go_wp2
              go_meet
              exact ⟨rfl, by rw [HFE.out]⟩
          case rest =>
            obtain ⟨rfl, hw⟩ := hcut
            have kX : Keeps (fun _ => False) wr wc := by rw [hw]; exact (Keeps.refl _ _).alloc _
            have y0 : wc.cell? ⟨wr.heap.size, 0, none⟩ = some (.int .i64 x0) := by rw [hw]; simp
            have y1 : wc.cell? ⟨wr.heap.size, 1, none⟩ = some (.int .i64 x1) := by rw [hw]; simp
            have y2 : wc.cell? ⟨wr.heap.size, 2, none⟩ = some (.int .i64 x2) := by rw [hw]; simp
            have y3 : wc.cell? ⟨wr.heap.size, 3, none⟩ = some (.string F) := by rw [hw]; simp
            have hox := HO2.out.keep kX
            have o0 := hox.o0
            have HOX := Lib.hid hox
            have KX := Lib.hid kX
            have hob := cell_ltk o0
            have hyb := cell_ltk y0
            obtain ⟨n, hn⟩ : ∃ n : Nat, n = ((L.take i).map Ins.few).length := ⟨_, rfl⟩
            have hni : n = i := by rw [hn, List.length_map, List.length_take, ← HN.out]; omega
            have hn9 : n ≤ 40 := by omega
            have HNn := Lib.hid hn
            clear hw kX hox d0 d1 d2 d3 c1 hn hni
            go_upto_region 6 with (at_builtin; refine wpList_append_atk rfl (.tmp 42) (.tmp 44) 38 rfl 0 52 i0 _ 4 40 Tryd.underlying38 hi hz0 hz1 hz2 (by rfl) (by omega) v n (flatI ((L.take i).map Ins.few)) (by rfl) (by rw [HNn.out]; exact own_of4 HOX.out.own ((Keeps.refl _ wc).alloc _)) ⟨wc.heap.size, 0, none⟩ 1 1 (Ins.few ⟨x0, x1, x2, x3⟩).cells (by rfl) (by rfl) (by rw [HFC.out]; exact (by have h := news4 (w := wc) (Ins.few ⟨x0, x1, x2, x3⟩) 52 rfl; rw [HFC.out] at h; exact h)) (Ins.one _) (by omega) (by omega) (Nat.zero_le _) ?_
                                   intro v5 w5 h5 g5 b5
                                   obtain ⟨A5, c5', rfl⟩ := own_formk h5
                                   have hm := HOX.out.more (Ins.few ⟨x0, x1, x2, x3⟩) ((Keeps.refl _ wc).alloc _) (by rw [← HNn.out]; exact h5) g5 b5
                                   have HM := Lib.hid hm.1
                                   have K5 := Lib.hid hm.2.1
                                   have c5 := hm.2.2.1
                                   have f5 := hm.2.2.2
                                   clear hm h5 g5 b5)
            have HMM := HM.out
            go_wp2
            go_roundw
            case rel =>
              refine ⟨i + 1, .slice A5 (n + 1) c5', by omega, by omega, by go_num, ?_, ?_⟩
              · rw [HNX.out]
                exact HM.out
              · exact (KR.out.trans KX.out (fun _ _ h => h.elim)).trans K5.out (fun _ _ h => h)
            case measure => simp [intOf]; omega
        · obtain rfl : i = 40 := by omega
          have h1I : ((40 : Nat) : Int) < (N : Int) := by omega
          have h1d : decide ((40 : Int) < (N : Int)) = true := decide_eq_true (by omega)
          have hdone : (L.take 40).map Ins.few = (L.take 40).map Ins.few := rfl
          have hil : 40 = q := by have := HQ.out; omega
          rw [hdone] at ho
          have hown := ho.own
          have hlen : ((L.take 40).map Ins.few).length = q := by rw [List.length_map, List.length_take, ← HN.out, HQ.out]; omega
          rw [hlen] at hown
          obtain ⟨A5, c5, rfl⟩ := own_formk hown
          have c1 := ho.c1
          have a0 := ho.a0
          have a1 := ho.a1
          have fa0 := ho.fa0
          have fa1 := ho.fa1
          have o0 := ho.o0
          have o1 := ho.o1
          have HFO := Lib.hid ho
          have HOWN := Lib.hid hown
          have hfin : Keeps (fun _ => False) w ((wr.setCell ⟨B + 1, 0, none⟩ (.slice A5 (q) c5)).setCell ⟨B + 1, 1, none⟩ (.slice E (me) d)) ∧ ((wr.setCell ⟨B + 1, 0, none⟩ (.slice A5 (q) c5)).setCell ⟨B + 1, 1, none⟩ (.slice E (me) d)).ownsRow 0 52 4 (.slice A5 (q) c5) (q) (flatI ((L.take 40).map Ins.few)) := by
            refine ⟨kback ((kr.setCell (p := ⟨B + 1, 0, none⟩) (fun _ => by show B ≤ B + 1; omega) _).setCell (p := ⟨B + 1, 1, none⟩) (fun _ => by show B ≤ B + 1; omega) _) HB.out, ?_⟩
            refine ownsRow_keep (ownsRow_keep hown (fun k hk => Below.heap_setCell wr _ _ k (fun e => ?_))) (fun k hk => Below.heap_setCell _ _ _ k (fun e => ?_))
            · have e : k = B + 1 := e
              have := ho.hb k hk
              omega
            · have e : k = B + 1 := e
              have := ho.hb k hk
              omega
          have HFIN := Lib.hid hfin
          have HHB : Hid (∀ g, (Value.slice A5 (q) c5).ownBlock = some g → w.heap.size ≤ g) := Lib.hid fun g hg => by have h1 := ho.hb g hg; have h2 := HB.out; omega
          clear ho hown hfin hdone hlen kr hil
          go_wp2
          (try simp only [Exit.inBlock, Exit.then])
          refine bodyPost_ret (v := .agg #[.slice A5 (q) c5, .slice E (me) d]) ?_ rfl ?_
          · rw [results_cell1 rfl]
            go_simp
          · exact ⟨⟨A5, c5, rfl, HFIN.out.2, HHB.out⟩, HFIN.out.1⟩
      · obtain rfl : i = N := by omega
        have h1d : decide ((i : Int) < (i : Int)) = false := decide_eq_false (by omega)
        have hdone : (L.take i).map Ins.few = (L.take 40).map Ins.few := by rw [List.take_of_length_le (by rw [← HN.out]; exact Nat.le_refl _), List.take_of_length_le (by rw [← HN.out]; omega)]
        have hil : i = q := by have := HQ.out; omega
        rw [hdone] at ho
        have hown := ho.own
        have hlen : ((L.take 40).map Ins.few).length = q := by rw [List.length_map, List.length_take, ← HN.out, HQ.out]; omega
        rw [hlen] at hown
        obtain ⟨A5, c5, rfl⟩ := own_formk hown
        have c1 := ho.c1
        have a0 := ho.a0
        have a1 := ho.a1
        have fa0 := ho.fa0
        have fa1 := ho.fa1
        have o0 := ho.o0
        have o1 := ho.o1
        have HFO := Lib.hid ho
        have HOWN := Lib.hid hown
        have hfin : Keeps (fun _ => False) w ((wr.setCell ⟨B + 1, 0, none⟩ (.slice A5 (q) c5)).setCell ⟨B + 1, 1, none⟩ (.slice E (me) d)) ∧ ((wr.setCell ⟨B + 1, 0, none⟩ (.slice A5 (q) c5)).setCell ⟨B + 1, 1, none⟩ (.slice E (me) d)).ownsRow 0 52 4 (.slice A5 (q) c5) (q) (flatI ((L.take 40).map Ins.few)) := by
          refine ⟨kback ((kr.setCell (p := ⟨B + 1, 0, none⟩) (fun _ => by show B ≤ B + 1; omega) _).setCell (p := ⟨B + 1, 1, none⟩) (fun _ => by show B ≤ B + 1; omega) _) HB.out, ?_⟩
          refine ownsRow_keep (ownsRow_keep hown (fun k hk => Below.heap_setCell wr _ _ k (fun e => ?_))) (fun k hk => Below.heap_setCell _ _ _ k (fun e => ?_))
          · have e : k = B + 1 := e
            have := ho.hb k hk
            omega
          · have e : k = B + 1 := e
            have := ho.hb k hk
            omega
        have HFIN := Lib.hid hfin
        have HHB : Hid (∀ g, (Value.slice A5 (q) c5).ownBlock = some g → w.heap.size ≤ g) := Lib.hid fun g hg => by have h1 := ho.hb g hg; have h2 := HB.out; omega
        clear ho hown hfin hdone hlen kr hil
        go_wp2
        (try simp only [Exit.inBlock, Exit.then])
        refine bodyPost_ret (v := .agg #[.slice A5 (q) c5, .slice E (me) d]) ?_ rfl ?_
        · rw [results_cell1 rfl]
          go_simp
        · exact ⟨⟨A5, c5, rfl, HFIN.out.2, HHB.out⟩, HFIN.out.1⟩

end Go.Proofs.YtoombjbpblighaaDoor
