/-
  Layer 14: the document's Keep in memory; the contracts of its New and Best, and of rows that are the same. Written by an AI agent.
-/
import Derived.Test.YtpighdioomjnmabKpX
namespace Go.Proofs.Ytpighdioomjnmab
open Go.RowKit Go.Shelf
set_option linter.unusedVariables false
set_option linter.unusedSimpArgs false

/-- The numbers as values. -/
def xv (L : List (Int × Int)) : List Value := L.map fun p => .int .i64 p.2
theorem tv_append (L M : List (Int × Int)) : tv (L ++ M) = tv L ++ tv M := by simp [tv]
theorem xv_append (L M : List (Int × Int)) : xv (L ++ M) = xv L ++ xv M := by simp [xv]
theorem tv_length (L : List (Int × Int)) : (tv L).length = L.length := by simp [tv]
theorem xv_length (L : List (Int × Int)) : (xv L).length = L.length := by simp [xv]
theorem tv_one (L : List (Int × Int)) : ∀ u ∈ tv L, u.oneCell' = true := by
  intro u hu
  simp only [tv, List.mem_map] at hu
  obtain ⟨a, _, rfl⟩ := hu
  rfl
theorem xv_one (L : List (Int × Int)) : ∀ u ∈ xv L, u.oneCell' = true := by
  intro u hu
  simp only [xv, List.mem_map] at hu
  obtain ⟨a, _, rfl⟩ := hu
  rfl

/-- The document's Keep, its two rows whatever they are. -/
structure DocR (w : World) (S : Nat → Prop) (yp : Nat) (mx : Int) (va vx : Value) (na : Nat) (la : List Value) (nb : Nat) (bs : List Value) : Prop where
  c0 : w.cell? ⟨yp, 0, none⟩ = some (.int .i64 mx)
  c1 : w.cell? ⟨yp, 1, none⟩ = some va
  c2 : w.cell? ⟨yp, 2, none⟩ = some vx
  fz : ∀ k, w.frozen? ⟨yp, k, none⟩ = false
  lt : yp < w.heap.size
  sp : S yp
  ownA : w.ownsRow 0 3 1 va na la
  ownX : w.ownsRow 0 3 1 vx nb bs
  ba : ∀ g, va.ownBlock = some g → S g ∧ g ≠ yp
  bx : ∀ g, vx.ownBlock = some g → S g ∧ g ≠ yp

/-- The document's Keep. -/
abbrev DocIs (w : World) (S : Nat → Prop) (yp : Nat) (mx : Int) (va vx : Value) (L : List (Int × Int)) : Prop := DocR w S yp mx va vx L.length (tv L) L.length (xv L)

theorem DocR.keep {w w' : World} {S T : Nat → Prop} {yp : Nat} {mx : Int} {va vx : Value} {na nb : Nat} {la bs : List Value} (h : DocR w S yp mx va vx na la nb bs) (hk : Keeps T w w') (hT : ∀ k, k < w.heap.size → S k → ¬ T k) : DocR w' S yp mx va vx na la nb bs where
  c0 := (hk.cell h.lt (hT yp h.lt h.sp)).trans h.c0
  c1 := (hk.cell h.lt (hT yp h.lt h.sp)).trans h.c1
  c2 := (hk.cell h.lt (hT yp h.lt h.sp)).trans h.c2
  fz := fun k => (hk.frozen h.lt (hT yp h.lt h.sp)).trans (h.fz k)
  lt := Nat.lt_of_lt_of_le h.lt hk.size
  sp := h.sp
  ownA := ownsRow_keep h.ownA fun k hv => hk.block k (own_ltk h.ownA hv) (hT k (own_ltk h.ownA hv) (h.ba k hv).1)
  ownX := ownsRow_keep h.ownX fun k hv => hk.block k (own_ltk h.ownX hv) (hT k (own_ltk h.ownX hv) (h.bx k hv).1)
  ba := h.ba
  bx := h.bx

theorem DocR.wider {w : World} {S T : Nat → Prop} {yp : Nat} {mx : Int} {va vx : Value} {na nb : Nat} {la bs : List Value} (h : DocR w S yp mx va vx na la nb bs) (hST : ∀ k, S k → T k) : DocR w T yp mx va vx na la nb bs :=
  { h with sp := hST _ h.sp, ba := fun g hg => ⟨hST g (h.ba g hg).1, (h.ba g hg).2⟩, bx := fun g hg => ⟨hST g (h.bx g hg).1, (h.bx g hg).2⟩ }

theorem DocR.narrow {w : World} {S : Nat → Prop} {yp : Nat} {mx : Int} {va vx : Value} {na nb : Nat} {la bs : List Value} (h : DocR w S yp mx va vx na la nb bs) : DocR w (fun k => S k ∧ k < w.heap.size) yp mx va vx na la nb bs :=
  { h with sp := ⟨h.sp, h.lt⟩, ba := fun g hg => ⟨⟨(h.ba g hg).1, own_ltk h.ownA hg⟩, (h.ba g hg).2⟩, bx := fun g hg => ⟨⟨(h.bx g hg).1, own_ltk h.ownX hg⟩, (h.bx g hg).2⟩ }

theorem DocR.setA {w : World} {S : Nat → Prop} {yp : Nat} {mx : Int} {va vx v : Value} {na nb n : Nat} {la bs xs : List Value} (h : DocR w S yp mx va vx na la nb bs) (ho : w.ownsRow 0 3 1 v n xs) (hv : ∀ g, v.ownBlock = some g → S g ∧ g ≠ yp) :
    DocR (w.setCell ⟨yp, 1, none⟩ v) S yp mx v vx n xs nb bs where
  c0 := (World.cell?_setCell_other w _ _ _ (by simp)).trans h.c0
  c1 := World.cell?_setCell_same' w _ _ (by rw [h.c1]; rfl)
  c2 := (World.cell?_setCell_other w _ _ _ (by simp)).trans h.c2
  fz := fun k => by rw [World.frozen?_setCell]; exact h.fz k
  lt := by have := h.lt; simpa using this
  sp := h.sp
  ownA := ownsRow_keep ho fun k hk => Below.heap_setCell w _ _ k (hv k hk).2
  ownX := ownsRow_keep h.ownX fun k hk => Below.heap_setCell w _ _ k (h.bx k hk).2
  ba := hv
  bx := h.bx

theorem DocR.setX {w : World} {S : Nat → Prop} {yp : Nat} {mx : Int} {va vx v : Value} {na nb n : Nat} {la bs xs : List Value} (h : DocR w S yp mx va vx na la nb bs) (ho : w.ownsRow 0 3 1 v n xs) (hv : ∀ g, v.ownBlock = some g → S g ∧ g ≠ yp) :
    DocR (w.setCell ⟨yp, 2, none⟩ v) S yp mx va v na la n xs where
  c0 := (World.cell?_setCell_other w _ _ _ (by simp)).trans h.c0
  c1 := (World.cell?_setCell_other w _ _ _ (by simp)).trans h.c1
  c2 := World.cell?_setCell_same' w _ _ (by rw [h.c2]; rfl)
  fz := fun k => by rw [World.frozen?_setCell]; exact h.fz k
  lt := by have := h.lt; simpa using this
  sp := h.sp
  ownA := ownsRow_keep h.ownA fun k hk => Below.heap_setCell w _ _ k (h.ba k hk).2
  ownX := ownsRow_keep ho fun k hk => Below.heap_setCell w _ _ k (hv k hk).2
  ba := h.ba
  bx := hv

theorem dnew_any (w : World) (most : Int) :
    Calls Try.prog 13 #[.int .i64 most] w fun e w' => e = .returned (.pointer (some ⟨w.heap.size, 0, none⟩)) ∧ w' = w.alloc (.cells #[.int .i64 (max most 1), .slice none 0 0, .slice none 0 0] 38) := by
  go_enter Try.func13, Try.ntmps13
  go_wp2
  go_ret
  exact ⟨rfl, rfl⟩

theorem docIs_new (w : World) (mx : Int) : DocIs (w.alloc (.cells #[.int .i64 mx, .slice none 0 0, .slice none 0 0] 38)) (fun k => k = w.heap.size) w.heap.size mx (.slice none 0 0) (.slice none 0 0) [] where
  c0 := by simp
  c1 := by simp
  c2 := by simp
  fz := fun k => World.frozen?_alloc_new _ _ _ _
  lt := by simp
  sp := rfl
  ownA := World.ownsRow_nil _ _ _ _
  ownX := World.ownsRow_nil _ _ _ _
  ba := by simp [Value.ownBlock]
  bx := by simp [Value.ownBlock]

/-- A number of a row of numbers. -/
theorem num_at {w : World} {A : Option Addr} {c n : Nat} {L : List (Int × Int)} (h : w.ownsRow 0 3 1 (.slice A n c) n (xv L)) (hn : n = L.length) {i : Nat} (hi : i < n) : ∃ g, A = some ⟨g, 0, none⟩ ∧ w.cell? ⟨g, i, none⟩ = some (.int .i64 (L.getD i (0, 0)).2) := by
  rcases h.2 with ⟨_, h0⟩ | ⟨g, cap, cur, e1, _⟩
  · omega
  · simp only [Value.slice.injEq] at e1
    obtain ⟨rfl, _, rfl⟩ := e1
    refine ⟨g, rfl, ?_⟩
    have h1 := h.cellAt i (by omega)
    rw [h1]
    unfold xv
    rw [List.getElem?_map, List.getElem?_eq_getElem (by omega), getD_lt (by omega)]
    rfl

theorem best_same {L : List (Int × Int)} {x : Int} {w w' u u' : World} {e e' : Ending} (hup : Up L) (h : GotBest L x w e w') (h' : GotBest L x u e' u') : e = e' := by
  obtain ⟨_, ⟨rfl, h0⟩ | ⟨s, hs, rfl, h1, h2⟩⟩ := h
  · obtain ⟨_, ⟨rfl, _⟩ | ⟨s, hs, rfl, h1, h2⟩⟩ := h'
    · rfl
    · have := h0 s hs
      omega
  · obtain ⟨_, ⟨rfl, h0⟩ | ⟨s', hs', rfl, h1', h2'⟩⟩ := h'
    · have := h0 s hs
      omega
    · obtain rfl : s = s' := by
        rcases Nat.lt_trichotomy s s' with h | h | h
        · have := h2 s' h hs'
          omega
        · exact h
        · have := h2' s h hs
          omega
      rfl

theorem keeps_drewN (S : Nat → Prop) {a w : World} (h : Keeps S a w) (q : Nat) : Keeps S a (w.drewN q) := ⟨h.os, h.tape, h.output, h.size, h.block⟩

set_option maxRecDepth 100000 in
set_option maxHeartbeats 2000000 in
theorem dbest_any (w : World) (S : Nat → Prop) (yp : Nat) (mx : Int) (va vx : Value) (L : List (Int × Int)) (H : DocIs w S yp mx va vx L) (hn : L.length ≤ 1000) (x : Int) :
    Calls Try.prog 17 #[.pointer (some ⟨yp, 0, none⟩), .int .i64 x] w (GotBest L x w) := by
  have c1 := H.c1
  have c2 := H.c2
  obtain ⟨A, ca, rfl⟩ := own_formk H.ownA
  obtain ⟨B, cb, rfl⟩ := own_formk H.ownX
  obtain ⟨N, hN⟩ : ∃ N : Nat, N = L.length := ⟨_, rfl⟩
  have hA : ∀ k, k < N → ∃ g, A = some ⟨g, 0, none⟩ ∧ w.cell? ⟨g, k, none⟩ = some (.int .i64 (L.getD k (0, 0)).1) := fun k hk => time_at H.ownA rfl (by omega)
  have hB : ∀ k, k < N → ∃ g, B = some ⟨g, 0, none⟩ ∧ w.cell? ⟨g, k, none⟩ = some (.int .i64 (L.getD k (0, 0)).2) := fun k hk => num_at H.ownX rfl (by omega)
  have HA := Lib.hid hA
  have HB := Lib.hid hB
  rw [← hN] at c1 c2 hn
  have HN := Lib.hid hN
  have hNm : IntKind.i64.wrap ((N : Int) - 1) = (N : Int) - 1 := IntWalk.i64_in _ (by omega)
  clear H hN hA hB
  go_enter Try.func17, Try.ntmps17
  go_wp2_with fail
  go_loopw [7] (fun s7 wr => ∃ k : Nat, k ≤ N ∧ s7 = .int .i64 ((k : Int) - 1) ∧ (∀ t, k ≤ t → t < N → x < (L.getD t (0, 0)).1) ∧ ∃ q, wr = w.drewN q) (fun s7 _ => (intOf s7 + 1).toNat)
  case atStart => exact ⟨N, Nat.le_refl _, rfl, fun t h1 h2 => by omega, 0, rfl⟩
  case round =>
    obtain ⟨k, hk, rfl, hall, q, rfl⟩ := hrel
    rcases k with _ | k
    · have hk0 : ¬ (0 : Int) ≤ ((0 : Nat) : Int) - 1 := by omega
      have hd : decide ((0 : Int) ≤ ((0 : Nat) : Int) - 1) = false := decide_eq_false hk0
      have hfin : GotBest L x w (.returned (.tuple #[.int .i64 0, .int .i64 0, .bool false])) (w.drewN q) := ⟨keeps_drewN _ (Keeps.refl _ _) q, .inl ⟨rfl, fun t ht => hall t (Nat.zero_le _) (by rw [HN.out]; exact ht)⟩⟩
      have HF := Lib.hid hfin
      clear hfin hall
      go_wp2
      exact bodyPost_ret (v := .tuple #[.int .i64 0, .int .i64 0, .bool false]) (by simp [results, Try.results17, go_sem]) rfl HF.out
    · rw [show (((k + 1 : Nat) : Int) - 1) = (k : Int) by omega]
      have hk0 : (0 : Int) ≤ (k : Int) := by omega
      have hkN : (k : Int) < (N : Int) := by omega
      obtain ⟨ga, rfl, ha⟩ := HA.out k (by omega)
      obtain ⟨gb, rfl, hb⟩ := HB.out k (by omega)
      obtain ⟨y, hy⟩ : ∃ y : Int, y = (L.getD k (0, 0)).1 := ⟨_, rfl⟩
      obtain ⟨z, hz⟩ : ∃ z : Int, z = (L.getD k (0, 0)).2 := ⟨_, rfl⟩
      rw [← hy] at ha
      rw [← hz] at hb
      by_cases hyx : y ≤ x
      · have hyd : decide (y ≤ x) = true := decide_eq_true hyx
        have hfin : ∀ q', GotBest L x w (.returned (.tuple #[.int .i64 y, .int .i64 z, .bool true])) ((w.drewN q).drewN q') := fun q' =>
          ⟨keeps_drewN _ (keeps_drewN _ (Keeps.refl _ _) q) q', .inr ⟨k, by rw [← HN.out]; omega, by rw [hy, hz], by rw [← hy]; exact hyx, fun t h1 h2 => hall t (by omega) (by rw [HN.out]; exact h2)⟩⟩
        have HF := Lib.hid hfin
        clear hfin hall hy hz
        go_wp2_with fail
        go_quiet (fail)
        go_wp2
        exact bodyPost_ret (v := .tuple #[.int .i64 y, .int .i64 z, .bool true]) (by simp [results, Try.results17, go_sem]) rfl (HF.out _)
      · have hyd : decide (y ≤ x) = false := decide_eq_false hyx
        have hall' : ∀ t, k ≤ t → t < N → x < (L.getD t (0, 0)).1 := fun t h1 h2 => by
          rcases Nat.lt_or_ge k t with h | h
          · exact hall t (by omega) h2
          · obtain rfl : t = k := by omega
            rw [← hy]
            omega
        have HAll := Lib.hid hall'
        clear hall hall' hy hz
        go_wp2
        go_roundw
        case rel => exact ⟨k, by omega, by go_num, HAll.out, q, rfl⟩
        case measure => simp [intOf]

set_option maxRecDepth 100000 in
set_option maxHeartbeats 1000000 in
theorem ints_same (w : World) (A B : Option Addr) (ca cb n : Nat) (L : List (Int × Int)) (hn : n = L.length) (hl : n ≤ 1000000) (hA : w.ownsRow 0 3 1 (.slice A n ca) n (tv L)) (hB : w.ownsRow 0 3 1 (.slice B n cb) n (tv L)) :
    Calls Try.prog 20 #[.slice A n ca, .slice B n cb] w fun e w' => e = .returned (.bool true) ∧ ∃ k, w' = w.drewN k := by
  have HA := Lib.hid (fun k (hk : k < n) => time_at hA hn hk)
  have HB := Lib.hid (fun k (hk : k < n) => time_at hB hn hk)
  have HN := Lib.hid hn
  clear hn hA hB
  go_enter Try.func20, Try.ntmps20
  go_wp2_with fail
  go_loopw [5] (fun i wr => ∃ k : Nat, k ≤ n ∧ i = .int .i64 k ∧ ∃ q, wr = w.drewN q) (fun i _ => n - (intOf i).toNat)
  case atStart => exact ⟨0, Nat.zero_le _, rfl, 0, rfl⟩
  case round =>
    obtain ⟨k, hk, rfl, q, hq⟩ := hrel
    by_cases hkn : k < n
    · have hkn' : (k : Int) < (n : Int) := by omega
      have hk0 : (0 : Int) ≤ (k : Int) := by omega
      obtain ⟨ga, rfl, ha⟩ := HA.out k hkn
      obtain ⟨gb, rfl, hb⟩ := HB.out k hkn
      have ca1 : wr.cell? ⟨ga, k, none⟩ = some (.int .i64 (L.getD k (0, 0)).1) := by rw [hq]; simpa using ha
      have cb1 : wr.cell? ⟨gb, k, none⟩ = some (.int .i64 (L.getD k (0, 0)).1) := by rw [hq]; simpa using hb
      obtain ⟨x, hx⟩ : ∃ x : Int, x = (L.getD k (0, 0)).1 := ⟨_, rfl⟩
      rw [← hx] at ca1 cb1
      have HQ := Lib.hid hq
      clear ha hb hq hx
      go_wp2_with fail
      go_quiet (fail)
      go_wp2
      go_roundw
      case rel => exact ⟨k + 1, by omega, by go_num, q + nq, by rw [HQ.out, World.drewN_drewN]⟩
      case measure => simp [intOf]; omega
    · obtain rfl : k = n := by omega
      have hd : decide (k < k) = false := by simp
      have HQ := Lib.hid hq
      clear hq
      go_wp2
      go_ret
      exact ⟨rfl, q, HQ.out⟩

end Go.Proofs.Ytpighdioomjnmab
