/-
  Layer 16: the contracts of at, Insert and Merge of edits. Written by an AI agent.
-/
import Derived.Test.YtpighdioomjnmabEdB
namespace Go.Proofs.Ytpighdioomjnmab
open Go.RowKit Go.Shelf
set_option linter.unusedVariables false
set_option linter.unusedSimpArgs false

/-- A row of the call's own that grows. -/
structure AccE (B : Nat) (w : World) (v : Value) (n : Nat) (L : List Ed) : Prop where
  own : w.ownsRow 0 49 5 v n (flatE L)
  len : n = L.length
  hb : ∀ g, v.ownBlock = some g → B ≤ g

theorem AccE.keep {B : Nat} {w w' : World} {v : Value} {n : Nat} {L : List Ed} (h : AccE B w v n L) (hk : Keeps (fun _ => False) w w') : AccE B w' v n L :=
  ⟨ownsRow_keep h.own fun k hk2 => hk.block k (own_ltk h.own hk2) (fun h => h), h.len, h.hb⟩

theorem AccE.next {B : Nat} {w w1 w5 : World} {v v5 : Value} {n m : Nat} {L M : List Ed} {xs : List Value} (h : AccE B w v n L) (hB : B ≤ w.heap.size) (hk : Keeps (fun _ => False) w w1) (ho : w5.ownsRow 0 49 5 v5 m xs) (hx : xs = flatE M) (hm : m = M.length) (hg : w1.grownBy w5 v.ownBlock)
    (hb : v5.ownBlock = v.ownBlock ∨ v5.ownBlock = some w1.heap.size) : AccE B w5 v5 m M ∧ Keeps (fun k => B ≤ k) w w5 := by
  have s1 := hk.size
  refine ⟨⟨hx ▸ ho, hm, fun g hg2 => ?_⟩, (hk.mono (T := fun k => B ≤ k) (fun _ _ h => h.elim)).grown hg fun k e _ => h.hb k e⟩
  rcases hb with e | e
  · exact h.hb g (e ▸ hg2)
  · rw [e] at hg2
    have : w1.heap.size = g := Option.some.inj hg2
    omega

theorem AccE.fin {B : Nat} {w w' : World} {A : Option Addr} {n c : Nat} {L : List Ed} (h : AccE B w' (.slice A n c) n L) (hB : B = w.heap.size) (hk : Keeps (fun _ => False) w w') : NewE L w (.returned (.slice A n c)) w' := by
  obtain ⟨ho, hn, hb⟩ := h
  subst hn
  exact ⟨A, c, rfl, ho, fun g hg => by have := hb g hg; omega, hk⟩

theorem kfalse {B : Nat} {w wr w5 : World} (hk : Keeps (fun _ => False) w wr) (h : Keeps (fun k => B ≤ k) wr w5) (hB : B = w.heap.size) : Keeps (fun _ => False) w w5 :=
  hk.trans h (fun k hk2 (h : B ≤ k) => by show False; omega)

theorem own_of {w : World} {v : Value} {n : Nat} {xs : List Value} (h : w.ownsRow 0 49 5 v n xs) {w' : World} (hk : Keeps (fun _ => False) w w') : w'.ownsRow 0 49 5 v n xs := ownsRow_keep h fun k hk2 => hk.block k (own_ltk h hk2) (fun h => h)

theorem Ed.one (x : Ed) : ∀ u ∈ x.cells, u.oneCell' = true := by
  intro u hu
  simp only [Ed.cells, List.mem_cons, List.not_mem_nil, or_false] at hu
  rcases hu with rfl | rfl | rfl | rfl | rfl <;> rfl

/-- Times that lie at a slice's cells. -/
def RdT (w : World) (A : Option Addr) (ts : List Int) : Prop := 0 < ts.length → ∃ b off, A = some ⟨b, off, none⟩ ∧ ∀ k, k < ts.length → w.cell? ⟨b, off + k, none⟩ = some (.int .i64 (ts.getD k 0))
def edAt (t : Int) : Ed := ⟨t, ⟨#[]⟩, 0, 0, ⟨#[]⟩⟩

set_option maxRecDepth 100000 in
set_option maxHeartbeats 2000000 in
theorem at_any (w : World) (A : Option Addr) (c : Nat) (ts : List Int) (hA : RdT w A ts) (hn : ts.length ≤ 1000) :
    Calls Try.prog 41 #[.slice A ts.length c] w (NewE (ts.map edAt) w) := by
  obtain ⟨i0, hi, hz0, hz1, hz2⟩ := info_parts info49
  obtain ⟨N, hN⟩ : ∃ N : Nat, N = ts.length := ⟨_, rfl⟩
  obtain ⟨B, hB⟩ : ∃ B : Nat, B = w.heap.size := ⟨_, rfl⟩
  have t0 : AccE B (w.alloc (.cells #[] 49)) (.slice (some ⟨w.heap.size, 0, none⟩) 0 0) 0 [] :=
    ⟨World.ownsRow_lit (base := 0) (e := 49) (size := 5) w #[] 0 (Nat.zero_le _) (by unfold maxLen; omega) rfl, rfl, fun g hg => by have : w.heap.size = g := Option.some.inj hg; omega⟩
  have HA := Lib.hid hA
  have HN := Lib.hid hN
  have HB := Lib.hid hB
  have T0 := Lib.hid t0
  rw [← hN] at hn ⊢
  clear hA hN hB t0
  go_enter Try.func41, Try.ntmps41
  go_wp2_with fail
  go_loopw [3, 4] (fun s3 s4 wr => ∃ k : Nat, k ≤ N ∧ s4 = .int .i64 k ∧ AccE B wr s3 k ((ts.take k).map edAt) ∧ Keeps (fun _ => False) w wr) (fun _ s4 _ => N - (intOf s4).toNat)
  case atStart => exact ⟨0, Nat.zero_le _, rfl, T0.out, (Keeps.refl _ _).alloc _⟩
  case round =>
    obtain ⟨k, hk, rfl, ht, kr⟩ := hrel
    by_cases hkN : k < N
    · have hkN' : (k : Int) < (N : Int) := by omega
      have hk0 : (0 : Int) ≤ (k : Int) := by omega
      have hkT : k < ts.length := by rw [← HN.out]; exact hkN
      obtain ⟨b, off, rfl, hc⟩ := HA.out (by omega)
      have c0 := hc k hkT
      have hb := cell_ltk c0
      replace c0 := (kr.cell hb (fun h => h)).trans c0
      obtain ⟨y, hy⟩ : ∃ y : Int, y = ts.getD k 0 := ⟨_, rfl⟩
      rw [← hy] at c0
      have hstep : (ts.take (k + 1)).map edAt = (ts.take k).map edAt ++ [edAt y] := by
        rw [List.take_succ_eq_append_getElem hkT, List.map_append, hy, List.getD_eq_getElem?_getD, List.getElem?_eq_getElem hkT]
        rfl
      have HS := Lib.hid hstep
      have TT := Lib.hid ht
      have KR := Lib.hid kr
      clear hc hb hy hstep ht kr
      go_wp2_with (at_builtin; refine wpList_append_atk rfl (.tmp 12) (.tmp 18) 43 rfl 0 49 i0 _ 5 56 Try.underlying43 hi hz0 hz1 hz2 (by rfl) (by omega) _ k _ (by rfl) (own_of TT.out.own ((Keeps.refl _ wr).alloc _)) ⟨wr.heap.size, 0, none⟩ 1 1 (edAt y).cells (by rfl) (by rfl) (news5 (edAt y) 49 (by rfl)) (Ed.one _) (by omega) (by omega) (Nat.zero_le _) ?_
                   intro v5 w5 h5 g5 b5
                   have t5 := TT.out.next (M := (ts.take (k + 1)).map edAt) (by have := HB.out; have := KR.out.size; omega) ((Keeps.refl _ wr).alloc _) h5 (by rw [HS.out, flatE_append]; rfl) (by rw [HS.out, List.length_append, ← TT.out.len]; rfl) g5 b5
                   have T5 := Lib.hid t5.1
                   have K5 := Lib.hid (kfalse KR.out t5.2 HB.out)
                   clear h5 g5 b5 t5)
      go_roundw
      case rel => exact ⟨k + 1, by omega, by go_num, T5.out, K5.out⟩
      case measure => simp [intOf]; omega
    · obtain rfl : k = N := by omega
      have hd : decide (k < k) = false := by simp
      obtain ⟨A5, c5, rfl⟩ := own_formk ht.own
      have hfin : NewE (ts.map edAt) w (.returned (.slice A5 k c5)) wr := by
        rw [HN.out, List.take_length] at ht
        rw [HN.out]
        exact ht.fin HB.out kr
      have HF := Lib.hid hfin
      clear ht kr hfin
      go_wp2
      go_ret
      exact HF.out

set_option maxRecDepth 100000 in
set_option maxHeartbeats 4000000 in
theorem insert_any (w : World) (A : Option Addr) (c : Nat) (L : List Ed) (hA : RdE w A L) (h0 : A = none → L.length = 0) (C : Option Addr) (d : Nat) (M : List Ed) (hC : RdE w C M) (hn : L.length + M.length ≤ 900) :
    Calls Try.prog 29 #[.slice A L.length c, .slice C M.length d] w (NewE (mergeE L M) w) := by
  obtain ⟨N, hN⟩ : ∃ N : Nat, N = M.length := ⟨_, rfl⟩
  obtain ⟨n0, hn0⟩ : ∃ n : Nat, n = L.length := ⟨_, rfl⟩
  obtain ⟨B, hB⟩ : ∃ B : Nat, B = w.heap.size := ⟨_, rfl⟩
  have CC := Lib.hid (clone_any w A c L hA (by omega) h0)
  have HC := Lib.hid hC
  have HN := Lib.hid hN
  have HN0 := Lib.hid hn0
  have HB := Lib.hid hB
  rw [← hN, ← hn0] at hn ⊢
  rw [← hn0] at CC
  clear hA hC hN hB hn0 h0
  go_enter Try.func29, Try.ntmps29
  go_wp2_with fail
  refine CC.out.mono ?_
  rintro e w1 ⟨A1, c1, rfl, ho1, hb1, k1⟩
  have t1 : AccE B w1 (.slice A1 n0 c1) n0 L := by
    rw [← HN0.out] at ho1 hb1
    exact ⟨ho1, HN0.out, fun g hg => by rw [HB.out]; exact hb1 g hg⟩
  rw [← HN0.out]
  have T1 := Lib.hid t1
  have K1 := Lib.hid k1
  clear ho1 hb1 k1 t1 CC
  go_wp2_with fail
  go_loopw [5, 13] (fun s5 s13 wr => ∃ k : Nat, k ≤ N ∧ s13 = .int .i64 k ∧ AccE B wr s5 (n0 + k) (mergeE L (M.take k)) ∧ Keeps (fun _ => False) w wr) (fun _ s13 _ => N - (intOf s13).toNat)
  case atStart => exact ⟨0, Nat.zero_le _, rfl, T1.out, K1.out⟩
  case round =>
    obtain ⟨k, hk, rfl, ht, kr⟩ := hrel
    by_cases hkN : k < N
    · have hkN' : (k : Int) < (N : Int) := by omega
      have hk0 : (0 : Int) ≤ (k : Int) := by omega
      have hkM : k < M.length := by rw [← HN.out]; exact hkN
      obtain ⟨b, off, rfl, hc⟩ := (HC.out.keep kr) (by omega)
      obtain ⟨e0, e1, e2, e3, e4⟩ := hc k hkM
      have hstep := mergeE_take L M k hkM
      obtain ⟨y, hy⟩ : ∃ y : Ed, y = M.getD k default := ⟨_, rfl⟩
      rw [← hy] at e0 e1 e2 e3 e4 hstep
      obtain ⟨R, hR⟩ : ∃ R : List Ed, R = mergeE L (M.take k) := ⟨_, rfl⟩
      rw [← hR] at ht hstep
      have hRl : n0 + k = R.length := ht.len
      obtain ⟨A5, c5, rfl⟩ := own_formk ht.own
      obtain ⟨p, hp⟩ : ∃ p : Nat, p = wr.heap.size := ⟨_, rfl⟩
      obtain ⟨wB, hwB⟩ : ∃ wB : World, wB = wr.alloc (.cells #[.int .i64 y.t, .string y.nm, .int .i64 y.ty, .int .i64 y.n, .string y.s] 49) := ⟨_, rfl⟩
      have kB : Keeps (fun _ => False) wr wB := by rw [hwB]; exact (Keeps.refl _ _).alloc _
      have sB : wB.heap.size = p + 1 := by rw [hwB, hp]; simp
      have b0 : wB.cell? ⟨p, 0, none⟩ = some (.int .i64 y.t) := by rw [hwB, hp]; simp
      have b1 : wB.cell? ⟨p, 1, none⟩ = some (.string y.nm) := by rw [hwB, hp]; simp
      have b2 : wB.cell? ⟨p, 2, none⟩ = some (.int .i64 y.ty) := by rw [hwB, hp]; simp
      have b3 : wB.cell? ⟨p, 3, none⟩ = some (.int .i64 y.n) := by rw [hwB, hp]; simp
      have b4 : wB.cell? ⟨p, 4, none⟩ = some (.string y.s) := by rw [hwB, hp]; simp
      have tB := ht.keep kB
      have XC := index_any wB A5 c5 R (own_rdE tB.own hRl) (by omega) p y.t b0
      rw [← hRl] at XC
      have hpl := plE_le R y.t
      have HB5 : Hid (∀ w5, Keeps (fun _ => False) wB w5 → w5.cell? ⟨p, 0, none⟩ = some (.int .i64 y.t) ∧ w5.cell? ⟨p, 1, none⟩ = some (.string y.nm) ∧ w5.cell? ⟨p, 2, none⟩ = some (.int .i64 y.ty) ∧ w5.cell? ⟨p, 3, none⟩ = some (.int .i64 y.n) ∧ w5.cell? ⟨p, 4, none⟩ = some (.string y.s)) := fun w5 hk5 =>
        have hq : p < wB.heap.size := by omega
        ⟨(hk5.cell hq (fun h => h)).trans b0, (hk5.cell hq (fun h => h)).trans b1, (hk5.cell hq (fun h => h)).trans b2, (hk5.cell hq (fun h => h)).trans b3, (hk5.cell hq (fun h => h)).trans b4⟩
      have HIC : Hid (∀ w5, Keeps (fun _ => False) wB w5 → Calls Try.prog 48 #[.slice A5 (n0 + k) c5, .int .i64 ((plE R y.t : Nat) : Int), .slice (some ⟨w5.heap.size, 0, none⟩) 1 1] (w5.alloc (.cells y.cells.toArray 49)) (Inserted49 (.slice A5 (n0 + k) c5) (n0 + k) (flatE R) y.cells (plE R y.t) (w5.alloc (.cells y.cells.toArray 49)))) := fun w5 hk5 =>
        ins_any49 (w5.alloc (.cells y.cells.toArray 49)) (.slice A5 (n0 + k) c5) (n0 + k) (plE R y.t) (flatE R) y.cells (own_of ((tB.keep hk5).own) ((Keeps.refl _ w5).alloc _)) (flatE_one R) (by omega) (by omega) rfl (Ed.one y) w5.heap.size 49
          (fun e => by have h := own_ltk (tB.keep hk5).own e; omega) (heap_alloc_new w5 _)
      have HNx : Hid (∀ w5, Keeps (fun _ => False) wB w5 → ∀ (w6 : World) (v6 : Value), w6.ownsRow 0 49 5 v6 (n0 + k + 1) ((flatE R).take (plE R y.t * 5) ++ y.cells ++ (flatE R).drop (plE R y.t * 5)) → (w5.alloc (.cells y.cells.toArray 49)).grownBy w6 (Value.slice A5 (n0 + k) c5).ownBlock → (v6.ownBlock = (Value.slice A5 (n0 + k) c5).ownBlock ∨ v6.ownBlock = some (w5.alloc (.cells y.cells.toArray 49)).heap.size) → AccE B w6 v6 (n0 + k + 1) (mergeE L (M.take (k + 1))) ∧ Keeps (fun _ => False) w w6) := fun w5 hk5 w6 v6 ho hg hb => by
        have hBs : B ≤ wr.heap.size := by have := HB.out; have := kr.size; omega
        have q := ht.next (M := mergeE L (M.take (k + 1))) hBs ((kB.trans hk5 (fun _ _ h => h)).alloc _) ho (by rw [hstep, flatE_ins]) (by rw [hstep, insE_length, hRl]) hg hb
        exact ⟨q.1, kfalse kr q.2 HB.out⟩
      have HXC := Lib.hid XC
      have HRl := Lib.hid hRl
      have K2 := Lib.hid kB
      obtain ⟨yt, ynm, yty, yn, ys⟩ := y
      obtain ⟨i, hi⟩ : ∃ i : Nat, i = plE R yt := ⟨_, rfl⟩
      rw [← hi] at hpl
      have HI := Lib.hid hi
      have hiN : i ≤ n0 + k := by omega
      clear hc hy hstep hR hRl ht kr kB tB XC b0 b1 b2 b3 b4 hi hpl
      subst hp
      go_wp2_with fail
      rw [← hwB]
      clear hwB
      refine HXC.out.mono ?_
      rintro e w5 ⟨rfl, k5⟩
      obtain ⟨d0, d1, d2, d3, d4⟩ := HB5.out w5 k5
      have s5 := k5.size
      have IC := Lib.hid (HIC.out w5 k5)
      have HNx := Lib.hid (HNx.out w5 k5)
      rw [← HRl.out]
      rw [show plE R ({ t := yt, nm := ynm, ty := yty, n := yn, s := ys } : Ed).t = i from HI.out.symm] at IC HNx ⊢
      have hps : wr.heap.size ≠ w5.heap.size := by omega
      have hps2 : wr.heap.size < w5.heap.size := by omega
      clear k5 e0 e1 e2 e3 e4
      by_cases hin : i < n0 + k
      · rw [if_pos hin]
        have hneg : ¬ ((i : Int) < 0) := by omega
        have hd : decide ((i : Int) < 0) = false := decide_eq_false hneg
        go_wp2_with fail
        refine IC.out.mono ?_
        rintro e w6 ⟨v6, rfl, ho6, hg6, hb6⟩
        obtain ⟨A6, c6, rfl⟩ := own_formk ho6
        have t6 := HNx.out w6 _ ho6 hg6 hb6
        have T6 := Lib.hid t6.1
        have K6 := Lib.hid t6.2
        clear ho6 hg6 hb6 t6
        go_wp2
        go_roundw
        case rel => exact ⟨k + 1, by omega, by go_num, by rw [show n0 + (k + 1) = n0 + k + 1 by omega]; exact T6.out, K6.out⟩
        case measure => simp [intOf]; omega
      · have hie : i = n0 + k := by omega
        rw [if_neg hin]
        subst hie
        have hsum : ((n0 + k : Nat) : Int) = (n0 : Int) + (k : Int) := by omega
        go_wp2_with fail
        refine IC.out.mono ?_
        rintro e w6 ⟨v6, rfl, ho6, hg6, hb6⟩
        obtain ⟨A6, c6, rfl⟩ := own_formk ho6
        have t6 := HNx.out w6 _ ho6 hg6 hb6
        have T6 := Lib.hid t6.1
        have K6 := Lib.hid t6.2
        clear ho6 hg6 hb6 t6
        go_wp2
        go_roundw
        case rel => exact ⟨k + 1, by omega, by go_num, by rw [show n0 + (k + 1) = n0 + k + 1 by omega]; exact T6.out, K6.out⟩
        case measure => simp [intOf]; omega
    · obtain rfl : k = N := by omega
      have hd : decide (k < k) = false := by simp
      obtain ⟨A5, c5, rfl⟩ := own_formk ht.own
      have hfin : NewE (mergeE L M) w (.returned (.slice A5 (n0 + k) c5)) wr := by
        have h2 := ht.fin HB.out kr
        rw [HN.out, List.take_length] at h2
        rw [HN.out]
        exact h2
      have HF := Lib.hid hfin
      clear ht kr hfin
      go_wp2
      go_ret
      exact HF.out

theorem merge_any (w : World) (A : Option Addr) (c : Nat) (L : List Ed) (hA : RdE w A L) (h0 : A = none → L.length = 0) (C : Option Addr) (d : Nat) (M : List Ed) (hC : RdE w C M) (hn : L.length + M.length ≤ 900) :
    Calls Try.prog 28 #[.slice A L.length c, .slice C M.length d] w (NewE (mergeE L M) w) := by
  have IC := Lib.hid (insert_any w A c L hA h0 C d M hC hn)
  obtain ⟨N, hN⟩ : ∃ N : Nat, N = M.length := ⟨_, rfl⟩
  obtain ⟨n0, hn0⟩ : ∃ n : Nat, n = L.length := ⟨_, rfl⟩
  rw [← hN, ← hn0] at IC ⊢
  clear hA hC h0 hn hN hn0
  go_enter Try.func28, Try.ntmps28
  go_wp2_with fail
  refine IC.out.mono ?_
  rintro e w1 ⟨A1, c1, rfl, h1⟩
  have HF : Hid (NewE (mergeE L M) w (.returned (.slice A1 (mergeE L M).length c1)) w1) := ⟨A1, c1, rfl, h1⟩
  obtain ⟨q, hq⟩ : ∃ q : Nat, q = (mergeE L M).length := ⟨_, rfl⟩
  rw [← hq] at HF ⊢
  clear h1 hq
  go_wp2
  go_ret
  exact HF.out

end Go.Proofs.Ytpighdioomjnmab
