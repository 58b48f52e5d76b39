/-
  Layer 10: the contract of Make. Written by an AI agent.
-/
import Derived.Test.YtpighdioomjnmaaHpA
import Derived.Deep.RegionLaw
import Derived.StillTailTactics
namespace Go.Proofs.Ytpighdioomjnmaa
open Go.RowKit
set_option linter.unusedVariables false

theorem step_append_at {P : Program} {ops : Array Oper} {o : Oper} {a : Act} {w : World} {K : Act → World → Prop} {Q : Exit → Act → World → Prop} {E : Prop} (hgd : o.guard = none) (s x : Operand) (t : TypeId)
    (ho : o.op = .call { callee := .builtin .append, args := #[s, x], argTypes := #[t, t] })
    (base : Nat) (e : TypeId) (i : TypeInfo) (z : Value) (bytes : Nat) (ht : P.underlying t = some (.slice e)) (hi : P.info? e = some i) (hz : i.zero = some z)
    (hsize : i.size = 1) (hby : i.bytes = bytes) (hzs : z.cells.size = 1)
    (v : Value) (n : Nat) (xs : List Value) (hs : a.eval s = v) (hown : w.ownsRow base e 1 v n xs)
    (ad : Addr) (m c : Nat) (news : List Value) (hx : a.eval x = .slice (some ad) m c) (hl : news.length = m) (hnews : ∀ j u, news[j]? = some u → w.cell? (ad.add j) = some u) (h1 : ∀ u ∈ news, u.oneCell' = true)
    (h63 : n + m ≤ 1000000) (hby2 : bytes ≤ 64) (hbase : base ≤ w.heap.size)
    (h : ∀ v' w', w'.ownsRow base e 1 v' (n + m) (xs ++ news) → w.grownBy w' v.ownBlock → (v'.ownBlock = v.ownBlock ∨ v'.ownBlock = some w.heap.size) → K (a.put o.dst v') w') :
    if Region.wanted o (yielded ops a.tmps) = true then Oper.wp P o a w K Q else E := by
  have hw : Region.wanted o (yielded ops a.tmps) = true := by simp [Region.wanted, hgd]
  rw [if_pos hw]
  have hb : (n + m) * bytes ≤ 140737488355328 := Nat.le_trans (Nat.mul_le_mul h63 hby2) (by omega)
  obtain ⟨v', w', hrun, q1, q2, q3⟩ := run_append_at (P := P) w base t o.type e i z bytes ht hi hz hsize hby hzs v n xs hown ad m c news hl hnews h1 (by unfold maxLen; omega) hb hbase
  unfold Oper.wp execOp
  simp only [ho, resolve, invoke, builtin, Sem.run_bind, Sem.run_pure, Result.andThen_ok, List.map_toArray, List.map_cons, List.map_nil, hs, hx, hrun]
  exact h v' w' q1 q2 q3

theorem info3 : (Try.prog.info? 3).map (fun i => (i.zero, i.size, i.bytes)) = some (some (.int .i64 0), 1, 8) := by kernel_rfl

theorem keeps_drewN (S : Nat → Prop) (w : World) (n : Nat) : Keeps S w (w.drewN n) := by
  induction n with
  | zero => exact Keeps.refl S w
  | succ n ih => exact ih.drew
theorem size_drewN (w : World) (n : Nat) : (w.drewN n).heap.size = w.heap.size := by
  induction n with
  | zero => rfl
  | succ n ih => exact ih

theorem make_low (w : World) (p : Nat) (n : Int) (h : n < 0) :
    Calls Try.prog 10 #[.pointer (some ⟨p, 0, none⟩), .int .i64 n] w fun e w' => e = .returned (.tuple #[.int .i64 0, .int .i64 7]) ∧ w' = w := by
  go_enter Try.func10, Try.ntmps10
  go_wp2
  exact bodyPost_ret (v := .tuple #[.int .i64 0, .int .i64 7]) (by simp [results, Try.results10, go_sem]) rfl ⟨rfl, rfl⟩
theorem make_high (w : World) (p : Nat) (n : Int) (h0 : ¬ n < 0) (h : 16 < n) :
    Calls Try.prog 10 #[.pointer (some ⟨p, 0, none⟩), .int .i64 n] w fun e w' => e = .returned (.tuple #[.int .i64 0, .int .i64 7]) ∧ w' = w := by
  go_enter Try.func10, Try.ntmps10
  go_wp2
  exact bodyPost_ret (v := .tuple #[.int .i64 0, .int .i64 7]) (by simp [results, Try.results10, go_sem]) rfl ⟨rfl, rfl⟩
theorem make_full (w : World) (p lc cc le ce : Nat) (A B : Option Addr) (n : Nat) (q0 : w.cell? ⟨p, 0, none⟩ = some (.slice A lc cc)) (q1 : w.cell? ⟨p, 1, none⟩ = some (.slice B le ce))
    (hlc : lc ≤ 1000) (hle : le ≤ 1000) (h16 : n ≤ 16) (h : 40 < le + lc + n + 1) :
    Calls Try.prog 10 #[.pointer (some ⟨p, 0, none⟩), .int .i64 (n : Int)] w fun e w' => e = .returned (.tuple #[.int .i64 0, .int .i64 4]) ∧ ∃ k, w' = w.drewN k := by
  have a0 : ¬ (n : Int) < 0 := by omega
  have a1 : ¬ (16 : Int) < (n : Int) := by omega
  have s1 : IntKind.i64.wrap ((le : Int) + (lc : Int)) = ((le + lc : Nat) : Int) := by rw [IntWalk.i64_in _ (by omega)]; omega
  have s2 : IntKind.i64.wrap (((le + lc : Nat) : Int) + (n : Int)) = ((le + lc + n : Nat) : Int) := by rw [IntWalk.i64_in _ (by omega)]; omega
  have s3 : IntKind.i64.wrap (((le + lc + n : Nat) : Int) + 1) = ((le + lc + n + 1 : Nat) : Int) := by rw [IntWalk.i64_in _ (by omega)]; omega
  have s4 : (40 : Int) < ((le + lc + n + 1 : Nat) : Int) := by omega
  go_enter Try.func10, Try.ntmps10
  go_wp2
  go_quiet (fail)
  go_wp2
  exact bodyPost_ret (v := .tuple #[.int .i64 0, .int .i64 4]) (by simp [results, Try.results10, go_sem]) rfl ⟨rfl, ⟨_, rfl⟩⟩

theorem rdv_row2 {w : World} {v : Value} {n : Nat} {l : List Int} (h : w.ownsRow 0 3 1 v n (iv l)) :
    ∃ A cap, v = .slice A n cap ∧ n = l.length := by
  have hn : n = l.length := by have := h.1; rw [iv_length] at this; omega
  subst hn
  obtain ⟨A, cap, hv, _⟩ := rdv_row h
  exact ⟨A, cap, hv, rfl⟩

theorem ne_addr {p g a b : Nat} (h : g ≠ p) : (⟨p, a, none⟩ : Addr) ≠ ⟨g, b, none⟩ := fun e => h (by cases e; rfl)

theorem HeapIs.after0 {w w2 : World} {S : Nat → Prop} {p : Nat} {vc ve : Value} {cs es : List Int} (H : HeapIs w S p vc ve cs es) (hg : w.grownBy w2 vc.ownBlock) :
    w2.cell? ⟨p, 0, none⟩ = some vc ∧ w2.cell? ⟨p, 1, none⟩ = some ve ∧ (∀ k, w2.frozen? ⟨p, k, none⟩ = false) ∧ p < w2.heap.size := by
  have hb : w2.heap[p]? = w.heap[p]? := hg.block p H.lt fun e => (H.sc p e.symm).2.1 rfl
  exact ⟨(World.cell?_of_block (w := w) (a := ⟨p, 0, none⟩) hb).trans H.c0, (World.cell?_of_block (w := w) (a := ⟨p, 1, none⟩) hb).trans H.c1,
    fun k => (World.frozen?_of_block (w := w) (a := ⟨p, k, none⟩) hb).trans (H.fz k), Nat.lt_of_lt_of_le H.lt hg.size⟩

theorem HeapIs.after1 {w w2 : World} {S : Nat → Prop} {p : Nat} {vc ve : Value} {cs es : List Int} (H : HeapIs w S p vc ve cs es) (hg : w.grownBy w2 ve.ownBlock) :
    w2.cell? ⟨p, 0, none⟩ = some vc ∧ w2.cell? ⟨p, 1, none⟩ = some ve ∧ (∀ k, w2.frozen? ⟨p, k, none⟩ = false) ∧ p < w2.heap.size := by
  have hb : w2.heap[p]? = w.heap[p]? := hg.block p H.lt fun e => (H.se p e.symm).2.1 rfl
  exact ⟨(World.cell?_of_block (w := w) (a := ⟨p, 0, none⟩) hb).trans H.c0, (World.cell?_of_block (w := w) (a := ⟨p, 1, none⟩) hb).trans H.c1,
    fun k => (World.frozen?_of_block (w := w) (a := ⟨p, k, none⟩) hb).trans (H.fz k), Nat.lt_of_lt_of_le H.lt hg.size⟩

theorem HeapIs.grow0 {w w2 : World} {S : Nat → Prop} {p : Nat} {vc ve v2 : Value} {cs es cs2 : List Int} (H : HeapIs w S p vc ve cs es) (hown : w2.ownsRow 0 3 1 v2 cs2.length (iv cs2)) (hg : w.grownBy w2 vc.ownBlock)
    (hb : v2.ownBlock = vc.ownBlock ∨ v2.ownBlock = some w.heap.size) :
    HeapIs (w2.setCell ⟨p, 0, none⟩ v2) (fun k => S k ∨ (w.heap.size ≤ k ∧ k < w2.heap.size)) p v2 ve cs2 es ∧ Keeps S w (w2.setCell ⟨p, 0, none⟩ v2) := by
  obtain ⟨r0, r1, rf, rp⟩ := H.after0 hg
  have hv : ∀ k, v2.ownBlock = some k → (S k ∨ (w.heap.size ≤ k ∧ k < w2.heap.size)) ∧ k ≠ p ∧ k < w2.heap.size := fun k hk => by
    have hlt := (hown.lt k hk).2
    rcases hb with e | e
    · have := H.sc k (e.symm.trans hk)
      exact ⟨.inl this.1, this.2.1, hlt⟩
    · have e2 : k = w.heap.size := by rw [e] at hk; exact (Option.some.inj hk).symm
      have := H.lt
      exact ⟨.inr ⟨by omega, hlt⟩, by omega, hlt⟩
  refine ⟨⟨World.cell?_setCell_same' w2 _ _ (by rw [r0]; rfl), ?_, fun k => by rw [World.frozen?_setCell]; exact rf k, by simpa using rp, ?_, ?_, .inl H.sp, fun k hk => ?_, fun k hk => ?_, fun k hk => ?_⟩, ?_⟩
  · exact (World.cell?_setCell_other (w := w2) (a := ⟨p, 0, none⟩) (b := ⟨p, 1, none⟩) (v := v2) (fun e => by cases e)).trans r1
  · exact ownsRow_keep hown fun k hk => Below.heap_setCell w2 _ _ k (hv k hk).2.1
  · refine ownsRow_keep H.oe fun k hk => ?_
    have h3 := H.se k hk
    exact (Below.heap_setCell w2 _ _ k h3.2.1).trans (hg.block k h3.2.2 fun e => H.ce k e.symm hk)
  · obtain ⟨q1, q2, q3⟩ := hv k hk
    exact ⟨q1, q2, by simpa using q3⟩
  · have h3 := H.se k hk
    exact ⟨.inl h3.1, h3.2.1, by have := hg.size; simp; omega⟩
  · intro he
    have h3 := H.se k he
    rcases hb with e | e
    · exact H.ce k (e.symm.trans hk) he
    · have e2 : k = w.heap.size := by rw [e] at hk; exact (Option.some.inj hk).symm
      omega
  · exact ((Keeps.refl S w).grown hg fun k hk _ => (H.sc k hk).1).setCell (fun _ => H.sp) _

theorem HeapIs.grow1 {w w2 : World} {S : Nat → Prop} {p : Nat} {vc ve v2 : Value} {cs es es2 : List Int} (H : HeapIs w S p vc ve cs es) (hown : w2.ownsRow 0 3 1 v2 es2.length (iv es2)) (hg : w.grownBy w2 ve.ownBlock)
    (hb : v2.ownBlock = ve.ownBlock ∨ v2.ownBlock = some w.heap.size) :
    HeapIs (w2.setCell ⟨p, 1, none⟩ v2) (fun k => S k ∨ (w.heap.size ≤ k ∧ k < w2.heap.size)) p vc v2 cs es2 ∧ Keeps S w (w2.setCell ⟨p, 1, none⟩ v2) := by
  obtain ⟨r0, r1, rf, rp⟩ := H.after1 hg
  have hv : ∀ k, v2.ownBlock = some k → (S k ∨ (w.heap.size ≤ k ∧ k < w2.heap.size)) ∧ k ≠ p ∧ k < w2.heap.size := fun k hk => by
    have hlt := (hown.lt k hk).2
    rcases hb with e | e
    · have := H.se k (e.symm.trans hk)
      exact ⟨.inl this.1, this.2.1, hlt⟩
    · have e2 : k = w.heap.size := by rw [e] at hk; exact (Option.some.inj hk).symm
      have := H.lt
      exact ⟨.inr ⟨by omega, hlt⟩, by omega, hlt⟩
  refine ⟨⟨?_, World.cell?_setCell_same' w2 _ _ (by rw [r1]; rfl), fun k => by rw [World.frozen?_setCell]; exact rf k, by simpa using rp, ?_, ?_, .inl H.sp, fun k hk => ?_, fun k hk => ?_, fun k hk he => ?_⟩, ?_⟩
  · exact (World.cell?_setCell_other (w := w2) (a := ⟨p, 1, none⟩) (b := ⟨p, 0, none⟩) (v := v2) (fun e => by cases e)).trans r0
  · refine ownsRow_keep H.oc fun k hk => ?_
    have h3 := H.sc k hk
    exact (Below.heap_setCell w2 _ _ k h3.2.1).trans (hg.block k h3.2.2 fun e => H.ce k hk e.symm)
  · exact ownsRow_keep hown fun k hk => Below.heap_setCell w2 _ _ k (hv k hk).2.1
  · have h3 := H.sc k hk
    exact ⟨.inl h3.1, h3.2.1, by have := hg.size; simp; omega⟩
  · obtain ⟨q1, q2, q3⟩ := hv k hk
    exact ⟨q1, q2, by simpa using q3⟩
  · have h3 := H.sc k hk
    rcases hb with e | e
    · exact H.ce k hk (e.symm.trans he)
    · have e2 : k = w.heap.size := by rw [e] at he; exact (Option.some.inj he).symm
      omega
  · exact ((Keeps.refl S w).grown hg fun k hk _ => (H.se k hk).1).setCell (fun _ => H.sp) _

/-- What Make leaves where there is room. -/
def Made (S : Nat → Prop) (p : Nat) (cs es : List Int) (n : Nat) (w : World) (e : Ending) (w' : World) : Prop :=
  ∃ vc ve, e = .returned (.tuple #[.int .i64 ((es.length : Int) + 1), .int .i64 0]) ∧
    HeapIs w' (fun k => S k ∨ (w.heap.size ≤ k ∧ k < w'.heap.size)) p vc ve (cs ++ List.replicate n 0) (es ++ [(cs.length : Int) + (n : Int)]) ∧ Keeps S w w'

theorem rdv_new (w : World) (v : Value) (t : TypeId) : RdV (w.alloc (.cells #[v] t)) (some ⟨w.heap.size, 0, none⟩) [v] := fun _ => by
  refine ⟨w.heap.size, 0, rfl, fun i hi => ?_⟩
  have : i = 0 := by simp at hi; omega
  subst this
  simp

theorem news_new (w : World) (v : Value) (t : TypeId) : ∀ j u, ([v] : List Value)[j]? = some u → (w.alloc (.cells #[v] t)).drew.cell? ((⟨w.heap.size, 0, none⟩ : Addr).add j) = some u := by
  intro j u h
  have : j = 0 := by
    have := (List.getElem?_eq_some_iff.1 h).1
    simp at this
    exact this
  subst this
  simp at h
  subst h
  simp [Addr.add]

theorem iv_zeros (n : Nat) : iv (List.replicate n 0) = List.replicate n (Value.int .i64 0) := by simp [iv]

theorem made_end {w W1 W2 W3 W4 W5 : World} {S : Nat → Prop} {p lc le n : Nat} {vc ve v5 : Value} {cs es : List Int} (hcs : cs.length = lc) (hes : es.length = le)
    (G3 : HeapIs W3 (fun k => S k ∨ W1.heap.size ≤ k ∧ k < W2.heap.size) p vc ve (cs ++ List.replicate n 0) es ∧ Keeps S W1 W3) (z1 : W1.heap.size = w.heap.size) (K1 : Keeps S w W1) (S3 : W3.heap.size = W2.heap.size)
    (s5 : W1.heap.size ≤ W2.heap.size) (H4 : HeapIs W4 (fun k => S k ∨ W1.heap.size ≤ k ∧ k < W2.heap.size) p vc ve (cs ++ List.replicate n 0) es) (k34 : Keeps (fun _ => False) W3 W4)
    (O5 : W5.ownsRow 0 3 1 v5 (le + 1) (iv (es ++ [(lc : Int) + (n : Int)]))) (G5 : W4.grownBy W5 ve.ownBlock) (B5 : v5.ownBlock = ve.ownBlock ∨ v5.ownBlock = some W4.heap.size) :
    Made S p cs es n w (.returned (.tuple #[.int .i64 ((le : Int) + 1), .int .i64 0])) (W5.setCell ⟨p, 1, none⟩ v5) := by
  subst hcs
  subst hes
  rw [show es.length + 1 = (es ++ [(cs.length : Int) + (n : Int)]).length by simp] at O5
  obtain ⟨g1, g2⟩ := H4.grow1 O5 G5 B5
  have h34 := k34.size
  have h45 := G5.size
  have hsz : (W5.setCell ⟨p, 1, none⟩ v5).heap.size = W5.heap.size := by simp
  refine ⟨vc, v5, rfl, g1.wider fun k hk hS => ?_, ?_⟩
  · rw [hsz] at hk
    rw [hsz]
    rcases hS with (h | h) | h
    · exact .inl h
    · exact .inr ⟨by omega, by omega⟩
    · exact .inr ⟨by omega, by omega⟩
  · have k14 : Keeps S W1 W4 := G3.2.trans k34 (fun _ _ h => h.elim)
    refine (K1.trans k14 (fun _ _ h => h)).trans g2 fun x hx hS => ?_
    rcases hS with h | h
    · exact h
    · omega

set_option maxRecDepth 100000 in
set_option maxHeartbeats 1000000 in
theorem make_fits (w : World) (S : Nat → Prop) (p lc cc le ce : Nat) (A B : Option Addr) (cs es : List Int) (H : HeapIs w S p (.slice A lc cc) (.slice B le ce) cs es) (hcs : cs.length = lc) (hes : es.length = le)
    (n : Nat) (h16 : n ≤ 16) (h : le + lc + n + 1 ≤ 40) :
    Calls Try.prog 10 #[.pointer (some ⟨p, 0, none⟩), .int .i64 (n : Int)] w (Made S p cs es n w) := by
  obtain ⟨i0, hi, hz0, hz1, hz2⟩ := info_parts info3
  have q0 := H.c0
  have q1 := H.c1
  have a0 : ¬ (n : Int) < 0 := by omega
  have a1 : ¬ (16 : Int) < (n : Int) := by omega
  have s1 : IntKind.i64.wrap ((le : Int) + (lc : Int)) = ((le + lc : Nat) : Int) := by rw [IntWalk.i64_in _ (by omega)]; omega
  have s2 : IntKind.i64.wrap (((le + lc : Nat) : Int) + (n : Int)) = ((le + lc + n : Nat) : Int) := by rw [IntWalk.i64_in _ (by omega)]; omega
  have s3 : IntKind.i64.wrap (((le + lc + n : Nat) : Int) + 1) = ((le + lc + n + 1 : Nat) : Int) := by rw [IntWalk.i64_in _ (by omega)]; omega
  have s4 : ¬ (40 : Int) < ((le + lc + n + 1 : Nat) : Int) := by omega
  have HH := Lib.hid H
  clear H
  go_enter Try.func10, Try.ntmps10
  go_wp2
  go_quiet (fail)
  clear s1 s2 s3 s4
  obtain ⟨W1, hW1⟩ : ∃ W1, W1 = w.drewN nq := ⟨_, rfl⟩
  have K1 : Keeps S w W1 := by rw [hW1]; exact keeps_drewN S w nq
  have z1 : W1.heap.size = w.heap.size := by rw [hW1]; exact size_drewN w nq
  have H1 : HeapIs W1 S p (.slice A lc cc) (.slice B le ce) cs es := HH.out.keep (T := fun _ => False) (by rw [hW1]; exact keeps_drewN _ w nq) (fun _ _ _ h => h)
  rw [← hW1]
  clear hW1 q0 q1
  have q0 := H1.c0
  have q1 := H1.c1
  have hown := H1.oc
  rw [hcs] at hown
  have HH1 := Lib.hid H1
  clear H1
  go_wp2_with (at_builtin; refine wpList_append_zeros rfl (.tmp 31) (.tmp 32) 41 3 rfl 0 3 i0 Try.underlying41 Try.underlying3 hi hz0 hz1 hz2 _ lc (iv cs) (by rfl) hown n (by rfl) (by omega) (by omega) ?_; intro v2 W2 hown2 hg2 hb2
               rw [← iv_zeros, ← iv_append] at hown2
               obtain ⟨A2, c2, rfl, hl2⟩ := rdv_row2 hown2
               obtain ⟨r0, r1, rf, rp⟩ := HH1.out.after0 hg2
               have L2 := Lib.hid hl2
               have O2 := Lib.hid hown2
               have G2 := Lib.hid hg2
               have B2 := Lib.hid hb2
               clear hl2 hown2 hg2 hb2)
  have hl2 := L2.out
  have hown2 := O2.out
  rw [hl2] at hown2
  have g2 := HH1.out.grow0 (v2 := .slice A2 (lc + n) c2) (cs2 := cs ++ List.replicate n 0) (by rw [← hl2] at hown2 ⊢; exact hown2) G2.out B2.out
  rw [← hl2] at hown2
  clear hown2 O2 G2 B2 r0 r1 rf rp
  have G3 := Lib.hid g2
  have L3 := Lib.hid hl2
  clear g2 hl2 L2 hown q0 q1
  obtain ⟨W3, hW3⟩ : ∃ W3, W3 = W2.setCell ⟨p, 0, none⟩ (.slice A2 (lc + n) c2) := ⟨_, rfl⟩
  have S3 : W3.heap.size = W2.heap.size := by rw [hW3]; simp
  rw [← hW3] at G3 ⊢
  have q0 := G3.out.1.c0
  have q1 := G3.out.1.c1
  clear hW3
  have K4 : Keeps S w W3 := K1.trans G3.out.2 (fun _ _ h => h)
  have s5 : W1.heap.size ≤ W2.heap.size := by rw [← S3, z1]; exact K4.size
  obtain ⟨ob, hob⟩ : ∃ ob, ob = Obj.cells #[.int .i64 ((lc : Int) + (n : Int))] 3 := ⟨_, rfl⟩
  have H4 : HeapIs (W3.alloc ob).drew (fun k => S k ∨ (W1.heap.size ≤ k ∧ k < W2.heap.size)) p (.slice A2 (lc + n) c2) (.slice B le ce) (cs ++ List.replicate n 0) es :=
    G3.out.1.keep (T := fun _ => False) ((Keeps.refl _ _).alloc ob).drew (fun _ _ _ h => h)
  have N4 := news_new W3 (.int .i64 ((lc : Int) + (n : Int))) 3
  rw [← hob] at N4
  subst hob
  have q2 := H4.c0
  have q3 := H4.c1
  have hown := H4.oe
  rw [hes] at hown
  have OW := Lib.hid hown
  have HH4 := Lib.hid H4
  have KK4 := Lib.hid K4
  have SS4 := Lib.hid S3
  have SS5 := Lib.hid s5
  have ZZ1 := Lib.hid z1
  have NN4 := Lib.hid N4
  clear H4 K4 S3 s5 z1 HH HH1 hown N4
  simp only [World.cell?_drew] at q2 q3
  go_region_law (refine step_append_at (by rfl) (.tmp 40) (.tmp 46) 41 (by rfl) 0 3 i0 _ 8 Try.underlying41 hi hz0 hz1 hz2 (by rfl) _ le (iv es) (by rfl) OW.out ⟨W3.heap.size, 0, none⟩ 1 1 [.int .i64 ((lc : Int) + (n : Int))] (by rfl) (by rfl) NN4.out (by simp [Value.oneCell']) (by omega) (by omega) (by omega) ?_
                 intro v5 W5 hown5 hg5 hb5
                 obtain ⟨r0, r1, rf, rp⟩ := HH4.out.after1 hg5
                 have hown5' : W5.ownsRow 0 3 1 v5 (le + 1) (iv (es ++ [(lc : Int) + (n : Int)])) := by rw [iv_append]; exact hown5
                 obtain ⟨A5, c5, rfl, hl5⟩ := rdv_row2 hown5'
                 have L5 := Lib.hid hl5
                 have O5 := Lib.hid hown5'
                 have G5 := Lib.hid hg5
                 have B5 := Lib.hid hb5
                 clear hown5 hg5 hb5 hown5' hl5)
  all_goals
    have HE := made_end hcs hes G3.out ZZ1.out K1 SS4.out SS5.out HH4.out ((Keeps.refl _ _).alloc _).drew O5.out G5.out B5.out
    have HHE := Lib.hid HE
    clear HE
    obtain ⟨W6, hW6⟩ : ∃ W6, W6 = W5.setCell ⟨p, 1, none⟩ (.slice A5 (le + 1) c5) := ⟨_, rfl⟩
    have r2 : W6.cell? ⟨p, 1, none⟩ = some (.slice A5 (le + 1) c5) := by rw [hW6]; exact World.cell?_setCell_same' W5 _ _ (by rw [r1]; rfl)
    rw [← hW6] at HHE ⊢
    clear hW6 r0 r1 rf q0 q1 q2 q3
    go_wp2
    exact bodyPost_ret (v := .tuple #[.int .i64 ((le : Int) + 1), .int .i64 0]) (by simp [results, Try.results10, go_sem]) rfl HHE.out

end Go.Proofs.Ytpighdioomjnmaa
