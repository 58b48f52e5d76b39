/-
  Layer 8: the reader of bytes. Written by an AI agent.
-/
import Derived.Test.YtoombjbpblighaaDoorCoO
import Derived.Laws.BitsAllLaws
namespace Go.Proofs.YtoombjbpblighaaDoor
open Go Go.RowKit Go.Shelf
set_option linter.unusedVariables false
set_option linter.unusedSimpArgs false

/-- What a reader holds: the bytes left, and its error. -/
structure RS where
  l : List Int
  e : Nat
def takeE (n : Nat) (s : RS) : RS × List Int := if s.e = 0 then (if s.l.length < n then (⟨s.l, 2⟩, []) else (⟨s.l.drop n, 0⟩, s.l.take n)) else (s, [])
def needE (b : Bool) (s : RS) : RS := if s.e = 0 ∧ b = false then ⟨s.l, 3⟩ else s
def RdB (w : World) (R : Nat) (A : Option Addr) (l : List Int) : Prop := 0 < l.length → ∃ b off, A = some ⟨b, off, none⟩ ∧ b < R ∧ ∀ k, k < l.length → w.cell? ⟨b, off + k, none⟩ = some (.int .u8 (l.getD k 0))
structure RdS (w : World) (R : Nat) (s : RS) (A : Option Addr) (c : Nat) : Prop where
  c0 : w.cell? ⟨R, 0, none⟩ = some (.slice A s.l.length c)
  c1 : w.cell? ⟨R, 1, none⟩ = some (.int .i64 (s.e : Int))
  f0 : w.frozen? ⟨R, 0, none⟩ = false
  f1 : w.frozen? ⟨R, 1, none⟩ = false
  hb : RdB w R A s.l
  hc : s.l.length ≤ c
  hm : c ≤ 9223372036854775807
  ok : ∀ x ∈ s.l, 0 ≤ x ∧ x < 256
/-- The reader at R holds s. -/
def Rdr (w : World) (R : Nat) (s : RS) : Prop := ∃ A c, RdS w R s A c
/-- A slice that reads as bytes. -/
def Takes (w : World) (R : Nat) (v : Value) (l : List Int) : Prop := ∃ A c, v = .slice A l.length c ∧ RdB w R A l
theorem RdB.nil (w : World) (R : Nat) (A : Option Addr) : RdB w R A [] := fun h => absurd h (Nat.lt_irrefl _)
theorem RdB.keep {w w' : World} {R : Nat} {A : Option Addr} {l : List Int} (h : RdB w R A l) (hk : Keeps (fun b => b = R) w w') : RdB w' R A l := fun h0 => by
  obtain ⟨b, off, e, hne, hc⟩ := h h0
  exact ⟨b, off, e, hne, fun k hk2 => (hk.cell (cell_ltk (hc 0 h0)) (by omega)).trans (hc k hk2)⟩
theorem addr_addr (b off i : Nat) : (⟨b, off, none⟩ : Addr).add i = ⟨b, off + i, none⟩ := by unfold Addr.add; split <;> simp_all
theorem RdB.take {w : World} {R : Nat} {A : Option Addr} {l : List Int} (h : RdB w R A l) (n : Nat) : RdB w R A (l.take n) := fun h0 => by
  rw [List.length_take] at h0
  obtain ⟨b, off, e, hne, hc⟩ := h (by omega)
  refine ⟨b, off, e, hne, fun k hk => ?_⟩
  rw [List.length_take] at hk
  rw [hc k (by omega), List.getD_eq_getElem?_getD, List.getD_eq_getElem?_getD, List.getElem?_take, if_pos (by omega)]
theorem RdB.drop {w : World} {R : Nat} {A : Option Addr} {l : List Int} (h : RdB w R A l) (n : Nat) : RdB w R (A.map (·.add n)) (l.drop n) := fun h0 => by
  rw [List.length_drop] at h0
  obtain ⟨b, off, rfl, hne, hc⟩ := h (by omega)
  refine ⟨b, off + n, by simp [addr_addr], hne, fun k hk => ?_⟩
  rw [List.length_drop] at hk
  rw [Nat.add_assoc, hc (n + k) (by omega), List.getD_eq_getElem?_getD, List.getD_eq_getElem?_getD, List.getElem?_drop]

theorem RdS.setE {w : World} {R : Nat} {s : RS} {A : Option Addr} {c : Nat} (h : RdS w R s A c) (e : Nat) : RdS (w.setCell ⟨R, 1, none⟩ (.int .i64 (e : Int))) R ⟨s.l, e⟩ A c ∧ Keeps (fun p => p = R) w (w.setCell ⟨R, 1, none⟩ (.int .i64 (e : Int))) := by
  have hk : Keeps (fun p => p = R) w (w.setCell ⟨R, 1, none⟩ (.int .i64 (e : Int))) := (Keeps.refl (fun p => p = R) w).setCell (p := ⟨R, 1, none⟩) (fun _ => rfl) _
  exact ⟨⟨(cell_other _ 1 0 _ (.inl (by omega))).trans h.c0, cell_same _ _ _ _ _ h.c1, by rw [World.frozen?_setCell]; exact h.f0, by rw [World.frozen?_setCell]; exact h.f1, h.hb.keep hk, h.hc, h.hm, h.ok⟩, hk⟩
theorem RdS.setL {w : World} {R : Nat} {s : RS} {A : Option Addr} {c : Nat} (h : RdS w R s A c) (n : Nat) (hn : n ≤ s.l.length) (A' : Option Addr) (hA : s.l.drop n = [] ∨ A' = A.map (·.add n)) :
    RdS (w.setCell ⟨R, 0, none⟩ (.slice A' (s.l.length - n) (c - n))) R ⟨s.l.drop n, s.e⟩ A' (c - n) ∧ Keeps (fun p => p = R) w (w.setCell ⟨R, 0, none⟩ (.slice A' (s.l.length - n) (c - n))) := by
  have hk : Keeps (fun p => p = R) w (w.setCell ⟨R, 0, none⟩ (.slice A' (s.l.length - n) (c - n))) := (Keeps.refl (fun p => p = R) w).setCell (p := ⟨R, 0, none⟩) (fun _ => rfl) _
  have hc := h.hc
  have hm := h.hm
  refine ⟨⟨(cell_same _ _ _ _ _ h.c0).trans (by rw [List.length_drop]), (cell_other _ 0 1 _ (.inl (by omega))).trans h.c1, by rw [World.frozen?_setCell]; exact h.f0, by rw [World.frozen?_setCell]; exact h.f1, ?_, by rw [List.length_drop]; omega, by omega, fun x hx => h.ok x (List.mem_of_mem_drop hx)⟩, hk⟩
  rcases hA with e | rfl
  · show RdB _ R A' (s.l.drop n)
    rw [e]
    exact RdB.nil _ _ _
  · exact (h.hb.drop n).keep hk

set_option maxRecDepth 100000 in
set_option maxHeartbeats 4000000 in
/-- need. -/
theorem need_any (R : Nat) (b : Bool) (s : RS) (w : World) (h : Rdr w R s) : Calls Tryd.prog 81 #[.pointer (some ⟨R, 0, none⟩), .bool b] w fun e w' => e = .returned (.tuple #[]) ∧ Rdr w' R (needE b s) ∧ Keeps (fun p => p = R) w w' := by
  obtain ⟨A, c, h⟩ := h
  have H := Lib.hid h
  obtain ⟨c0, c1, f0, f1, hb, hc, hm, ok⟩ := h
  have hR := cell_ltk c0
  clear hb hc hm ok
  obtain ⟨l, e⟩ := s
  have c1 : w.cell? ⟨R, 1, none⟩ = some (.int .i64 (e : Int)) := c1
  by_cases h0 : e = 0
  · subst h0
    cases b
    · go_enter Tryd.func81, Tryd.ntmps81
      go_wp2
      go_end0
      exact ⟨rfl, ⟨A, c, (H.out.setE 3).1⟩, (H.out.setE 3).2⟩
    · go_enter Tryd.func81, Tryd.ntmps81
      go_wp2
      go_end0
      exact ⟨rfl, ⟨A, c, H.out⟩, Keeps.refl _ _⟩
  · have h1 : ¬ (e : Int) = 0 := by omega
    have h2 : decide ((e : Int) = 0) = false := decide_eq_false h1
    have E : needE b ⟨l, e⟩ = ⟨l, e⟩ := if_neg (fun h => h0 h.1)
    rw [E]
    clear E
    go_enter Tryd.func81, Tryd.ntmps81
    go_wp2
    go_end0
    exact ⟨rfl, ⟨A, c, H.out⟩, Keeps.refl _ _⟩

set_option maxRecDepth 100000 in
set_option maxHeartbeats 8000000 in
/-- bytes. -/
theorem bytes_any (R : Nat) (n : Nat) (s : RS) (hn : n ≤ 1000000000) (w : World) (h : Rdr w R s) : Calls Tryd.prog 94 #[.pointer (some ⟨R, 0, none⟩), .int .i64 n] w fun e w' => (∃ v, e = .returned v ∧ Takes w' R v (takeE n s).2) ∧ Rdr w' R (takeE n s).1 ∧ Keeps (fun p => p = R) w w' := by
  obtain ⟨A, c, h⟩ := h
  have H := Lib.hid h
  obtain ⟨c0, c1, f0, f1, hb, hc, hm, ok⟩ := h
  have hR := cell_ltk c0
  clear hb ok
  obtain ⟨l, e⟩ := s
  have c0 : w.cell? ⟨R, 0, none⟩ = some (.slice A l.length c) := c0
  have c1 : w.cell? ⟨R, 1, none⟩ = some (.int .i64 (e : Int)) := c1
  have hc : l.length ≤ c := hc
  obtain ⟨N, hN⟩ : ∃ N, N = l.length := ⟨_, rfl⟩
  rw [← hN] at c0 hc
  have HN := Lib.hid hN
  clear hN
  by_cases h0 : e = 0
  · subst h0
    by_cases h1 : N < n
    · have h1I : (N : Int) < (n : Int) := by omega
      have h1d : decide ((N : Int) < (n : Int)) = true := decide_eq_true h1I
      have E : Hid (takeE n ⟨l, 0⟩ = (⟨l, 2⟩, [])) := Lib.hid (by unfold takeE; rw [if_pos rfl, if_pos (by rw [← HN.out]; exact h1)])
      go_enter Tryd.func94, Tryd.ntmps94
      go_wp2
      go_ret
      rw [E.out]
      exact ⟨⟨_, rfl, none, 0, rfl, RdB.nil _ _ _⟩, ⟨A, c, (H.out.setE 2).1⟩, (H.out.setE 2).2⟩
    · have h1I : ¬ (N : Int) < (n : Int) := by omega
      have h1d : decide ((N : Int) < (n : Int)) = false := decide_eq_false h1I
      have E : Hid (takeE n ⟨l, 0⟩ = (⟨l.drop n, 0⟩, l.take n)) := Lib.hid (by unfold takeE; rw [if_pos rfl, if_neg (by rw [← HN.out]; exact h1)])
      have b0 : (0 : Int) ≤ (n : Int) := by omega
      have b1 : (n : Int) ≤ (N : Int) := by omega
      have b2 : (n : Int) ≤ (c : Int) := by omega
      have tl : Hid ((l.take n).length = n) := Lib.hid (by rw [List.length_take, ← HN.out]; omega)
      by_cases hcn : c = n
      · go_enter Tryd.func94, Tryd.ntmps94
        go_wp2
        go_ret
        rw [E.out]
        have hl : l.length = c := by have := HN.out; omega
        have F := H.out.setL n (by show n ≤ l.length; rw [← HN.out]; omega) A (.inl (List.drop_eq_nil_of_le (by show l.length ≤ n; omega)))
        have e1 : (⟨l, 0⟩ : RS).l.length - n = N - n := by rw [HN.out]
        have e2 : c - n = 0 := by omega
        rw [e1, e2] at F
        have tk : Takes (w.setCell ⟨R, 0, none⟩ (.slice A (N - n) 0)) R (.slice A n n) (l.take n) := ⟨A, n, by rw [tl.out], (H.out.hb.take n).keep F.2⟩
        exact ⟨⟨_, rfl, tk⟩, ⟨_, _, F.1⟩, F.2⟩
      · go_enter Tryd.func94, Tryd.ntmps94
        go_wp2
        go_ret
        rw [E.out]
        have F := H.out.setL n (by show n ≤ l.length; rw [← HN.out]; omega) _ (.inr rfl)
        have e1 : (⟨l, 0⟩ : RS).l.length - n = N - n := by rw [HN.out]
        rw [e1] at F
        have tk : Takes (w.setCell ⟨R, 0, none⟩ (.slice (Option.map (fun x => x.add n) A) (N - n) (c - n))) R (.slice A n c) (l.take n) := ⟨A, c, by rw [tl.out], (H.out.hb.take n).keep F.2⟩
        exact ⟨⟨_, rfl, tk⟩, ⟨_, _, F.1⟩, F.2⟩
  · have h1 : ¬ (e : Int) = 0 := by omega
    have h2 : decide ((e : Int) = 0) = false := decide_eq_false h1
    have E : Hid (takeE n ⟨l, e⟩ = (⟨l, e⟩, [])) := Lib.hid (if_neg h0)
    go_enter Tryd.func94, Tryd.ntmps94
    go_wp2
    go_ret
    rw [E.out]
    exact ⟨⟨_, rfl, none, 0, rfl, RdB.nil _ _ _⟩, ⟨A, c, H.out⟩, Keeps.refl _ _⟩

def oneF (L : List Int) : Int := L.foldl (fun _ c => c) 0
def numF (L : List Int) : Int := L.foldl (fun n c => n * 256 + c) 0
def oneE (s : RS) : RS × Int := ((takeE 1 s).1, oneF (takeE 1 s).2)
def numE (s : RS) : RS × Int := ((takeE 8 s).1, wrap64 (numF (takeE 8 s).2))
theorem takeE_len (n : Nat) (s : RS) : (takeE n s).2.length ≤ n := by
  unfold takeE
  split
  · split
    · simp
    · simp [List.length_take]; omega
  · simp
theorem takeE_ok (n : Nat) (s : RS) (h : ∀ x ∈ s.l, 0 ≤ x ∧ x < 256) : ∀ x ∈ (takeE n s).2, 0 ≤ x ∧ x < 256 := by
  unfold takeE
  split
  · split
    · simp
    · exact fun x hx => h x (List.mem_of_mem_take hx)
  · simp
theorem take_snoc (L : List Int) (k : Nat) (h : k < L.length) : L.take (k + 1) = L.take k ++ [L.getD k 0] := by
  rw [List.take_add_one, List.getD_eq_getElem?_getD, List.getElem?_eq_getElem h]
  rfl
theorem oneF_snoc (L : List Int) (x : Int) : oneF (L ++ [x]) = x := by simp [oneF]
theorem numF_bound (L : List Int) : (∀ x ∈ L, 0 ≤ x ∧ x < 256) → 0 ≤ numF L ∧ numF L < 256 ^ L.length := by
  suffices h : ∀ (M : List Int) (a b : Int), 0 ≤ a → a < b → (∀ x ∈ M, 0 ≤ x ∧ x < 256) → 0 ≤ M.foldl (fun n c => n * 256 + c) a ∧ M.foldl (fun n c => n * 256 + c) a < b * 256 ^ M.length by
    intro hL
    have := h L 0 1 (by omega) (by omega) hL
    rw [Int.one_mul] at this
    exact this
  intro M
  induction M with
  | nil => intro a b h0 h1 _; simp; omega
  | cons x M ih =>
    intro a b h0 h1 hM
    have hx := hM x (List.mem_cons_self ..)
    have h2 := ih (a * 256 + x) (b * 256) (by omega) (by omega) (fun y hy => hM y (List.mem_cons_of_mem _ hy))
    rw [List.foldl_cons, List.length_cons, Int.pow_succ]
    refine ⟨h2.1, ?_⟩
    have : b * (256 ^ M.length * 256) = b * 256 * 256 ^ M.length := by rw [Int.mul_comm (256 ^ M.length) 256, Int.mul_assoc]
    rw [this]
    exact h2.2
theorem or_num (n c : Int) (h0 : 0 ≤ n) (h1 : n < 72057594037927936) (h2 : 0 ≤ c) (h3 : c < 256) : bits BinOp.or IntKind.u64 (IntKind.u64.wrap (n * 256)) c = n * 256 + c := by
  obtain ⟨a, rfl⟩ := Int.eq_ofNat_of_zero_le h0
  obtain ⟨b, rfl⟩ := Int.eq_ofNat_of_zero_le h2
  have hw : IntKind.u64.wrap ((a : Int) * 256) = ((2 ^ 8 * a : Nat) : Int) := by
    rw [IntKind.wrap_u64]
    omega
  rw [hw, u64_or_nat _ _ (by omega) (by omega), ← Nat.two_pow_add_eq_or_of_lt (by omega)]
  omega
theorem numF_snoc (L : List Int) (x : Int) : numF (L ++ [x]) = numF L * 256 + x := by simp [numF]

set_option maxRecDepth 100000 in
set_option maxHeartbeats 8000000 in
/-- one. -/
theorem one_any (R : Nat) (s : RS) (w : World) (h : Rdr w R s) : Calls Tryd.prog 80 #[.pointer (some ⟨R, 0, none⟩)] w fun e w' => e = .returned (.int .i64 (oneE s).2) ∧ Rdr w' R (oneE s).1 ∧ Keeps (fun p => p = R) w w' := by
  obtain ⟨L, hL⟩ : ∃ L, L = (takeE 1 s).2 := ⟨_, rfl⟩
  obtain ⟨s', hs⟩ : ∃ s', s' = (takeE 1 s).1 := ⟨_, rfl⟩
  have hok : ∀ x ∈ L, 0 ≤ x ∧ x < 256 := by obtain ⟨A, c, h⟩ := h; rw [hL]; exact takeE_ok _ _ h.ok
  have hlen : L.length ≤ 1 := by rw [hL]; exact takeE_len _ _
  have B := bytes_any R 1 s (by omega) w h
  unfold oneE
  rw [← hL, ← hs] at B ⊢
  have B := Lib.hid B
  clear hL hs
  go_enter Tryd.func80, Tryd.ntmps80
  go_wp2_with fail
  refine B.out.mono ?_
  rintro e w1 ⟨⟨v, rfl, X, c, rfl, hx⟩, hr, hk⟩
  have HX := Lib.hid hx
  have HR := Lib.hid hr
  have HK := Lib.hid hk
  obtain ⟨m, hm⟩ : ∃ m, m = L.length := ⟨_, rfl⟩
  rw [← hm]
  have HM := Lib.hid hm
  have hm8 : m ≤ 1 := by omega
  clear hx hr hk hm
  go_wp2_with fail
  go_loopw [3, 5, 9] (fun s3 s5 s9 wr => ∃ k : Nat, k ≤ m ∧ s9 = .int .i64 k ∧ s3 = .int .i64 (oneF (L.take k)) ∧ wr = w1) (fun _ _ s9 _ => m - (intOf s9).toNat)
  case atStart => exact ⟨0, Nat.zero_le _, rfl, rfl, rfl⟩
  case round =>
    obtain ⟨k, hkm, rfl, rfl, rfl⟩ := hrel
    by_cases h1 : k < m
    · have h1I : (k : Int) < (m : Int) := by omega
      have h1d : decide ((k : Int) < (m : Int)) = true := decide_eq_true h1I
      obtain ⟨b, off, rfl, hne, hc⟩ := HX.out (by rw [← HM.out]; omega)
      have hck := hc k (by rw [← HM.out]; omega)
      have hg := hok (L.getD k 0) (by rw [List.getD_eq_getElem?_getD, List.getElem?_eq_getElem (by rw [← HM.out]; exact h1)]; exact List.getElem_mem _)
      obtain ⟨z, hz⟩ : ∃ z, z = L.getD k 0 := ⟨_, rfl⟩
      rw [← hz] at hck hg
      have HZ := Lib.hid hz
      have hs : Hid (oneF (L.take (k + 1)) = z) := Lib.hid (by rw [take_snoc L k (by rw [← HM.out]; exact h1), oneF_snoc, hz])
      have h0z := hg.1
      have h1z := hg.2
      clear hz hc
      go_wp2
      exact ⟨⟨k + 1, by omega, by go_num, by rw [hs.out], trivial⟩, by simp [intOf]; omega⟩
    · have h1I : ¬ (k : Int) < (m : Int) := by omega
      have h1d : decide ((k : Int) < (m : Int)) = false := decide_eq_false h1I
      have hE : Hid (oneF L = oneF (L.take k)) := Lib.hid (by rw [List.take_of_length_le (by rw [← HM.out]; omega)])
      go_wp2
      go_ret
      refine ⟨by rw [hE.out]; rfl, HR.out, HK.out⟩

set_option maxRecDepth 100000 in
set_option maxHeartbeats 8000000 in
/-- number. -/
theorem num_any (R : Nat) (s : RS) (w : World) (h : Rdr w R s) : Calls Tryd.prog 82 #[.pointer (some ⟨R, 0, none⟩)] w fun e w' => e = .returned (.int .i64 (numE s).2) ∧ Rdr w' R (numE s).1 ∧ Keeps (fun p => p = R) w w' := by
  obtain ⟨L, hL⟩ : ∃ L, L = (takeE 8 s).2 := ⟨_, rfl⟩
  obtain ⟨s', hs⟩ : ∃ s', s' = (takeE 8 s).1 := ⟨_, rfl⟩
  have hok : ∀ x ∈ L, 0 ≤ x ∧ x < 256 := by obtain ⟨A, c, h⟩ := h; rw [hL]; exact takeE_ok _ _ h.ok
  have hlen : L.length ≤ 8 := by rw [hL]; exact takeE_len _ _
  have B := bytes_any R 8 s (by omega) w h
  unfold numE
  rw [← hL, ← hs] at B ⊢
  have B := Lib.hid B
  clear hL hs
  go_enter Tryd.func82, Tryd.ntmps82
  go_wp2_with fail
  refine B.out.mono ?_
  rintro e w1 ⟨⟨v, rfl, X, c, rfl, hx⟩, hr, hk⟩
  have HX := Lib.hid hx
  have HR := Lib.hid hr
  have HK := Lib.hid hk
  obtain ⟨m, hm⟩ : ∃ m, m = L.length := ⟨_, rfl⟩
  rw [← hm]
  have HM := Lib.hid hm
  have hm8 : m ≤ 8 := by omega
  clear hx hr hk hm
  go_wp2_with fail
  go_loopw [3, 5, 9] (fun s3 s5 s9 wr => ∃ k : Nat, k ≤ m ∧ s9 = .int .i64 k ∧ s3 = .int .u64 (numF (L.take k)) ∧ wr = w1) (fun _ _ s9 _ => m - (intOf s9).toNat)
  case atStart => exact ⟨0, Nat.zero_le _, rfl, rfl, rfl⟩
  case round =>
    obtain ⟨k, hkm, rfl, rfl, rfl⟩ := hrel
    by_cases h1 : k < m
    · have h1I : (k : Int) < (m : Int) := by omega
      have h1d : decide ((k : Int) < (m : Int)) = true := decide_eq_true h1I
      obtain ⟨b, off, rfl, hne, hc⟩ := HX.out (by rw [← HM.out]; omega)
      have hck := hc k (by rw [← HM.out]; omega)
      have hg := hok (L.getD k 0) (by rw [List.getD_eq_getElem?_getD, List.getElem?_eq_getElem (by rw [← HM.out]; exact h1)]; exact List.getElem_mem _)
      obtain ⟨z, hz⟩ : ∃ z, z = L.getD k 0 := ⟨_, rfl⟩
      rw [← hz] at hck hg
      have HZ := Lib.hid hz
      have hs : Hid (numF (L.take (k + 1)) = numF (L.take k) * 256 + z) := Lib.hid (by rw [take_snoc L k (by rw [← HM.out]; exact h1), numF_snoc, hz])
      have h0z := hg.1
      have OR : Hid (bits BinOp.or IntKind.u64 (IntKind.u64.wrap (numF (L.take k) * 256)) z = numF (L.take k) * 256 + z) := Lib.hid (by
        have hb := numF_bound (L.take k) (fun x hx => hok x (List.mem_of_mem_take hx))
        have hp : (256 : Int) ^ (L.take k).length ≤ 256 ^ 7 := by
          have h7 : (L.take k).length ≤ 7 := by rw [List.length_take]; omega
          have := Nat.pow_le_pow_right (n := 256) (by omega) h7
          exact_mod_cast this
        exact or_num _ _ hb.1 (by have h8 : (256 : Int) ^ 7 = 72057594037927936 := by decide
                                  omega) hg.1 hg.2)
      have h1z := hg.2
      clear hz hc
      go_wp2
      rw [OR.out]
      exact ⟨⟨k + 1, by omega, by go_num, by rw [hs.out], trivial⟩, by simp [intOf]; omega⟩
    · have h1I : ¬ (k : Int) < (m : Int) := by omega
      have h1d : decide ((k : Int) < (m : Int)) = false := decide_eq_false h1I
      have hE : Hid (numF L = numF (L.take k)) := Lib.hid (by rw [List.take_of_length_le (by rw [← HM.out]; omega)])
      go_wp2
      go_ret
      rw [hE.out]
      exact ⟨rfl, HR.out, HK.out⟩

end Go.Proofs.YtoombjbpblighaaDoor
