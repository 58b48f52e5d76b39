/-
  Layer 14: append of what may be nothing; the contract of the document's Drop. Written by an AI agent.
-/
import Derived.Test.YtpighdioomjnmabKpY
namespace Go.Proofs.Ytpighdioomjnmab
open Go.RowKit Go.Shelf
set_option linter.unusedVariables false
set_option linter.unusedSimpArgs false

/-- What lies at a slice's cells, if there is something. -/
def RdO (w : World) (A : Option Addr) (news : List Value) : Prop := 0 < news.length → ∃ b off, A = some ⟨b, off, none⟩ ∧ ∀ i, i < news.length → w.cell? ⟨b, off + i, none⟩ = news[i]?

theorem run_append_nothingk {P : Program} (w : World) (t ty e : TypeId) (i : TypeInfo) (ht : P.underlying t = some (.slice e)) (hi : P.info? e = some i) (base size : Nat) (v : Value) (n : Nat) (xs : List Value) (hown : w.ownsRow base e size v n xs) (c : Nat) :
    (Builtin.append_ #[t, t] ty #[v, .slice none 0 c]).run P w = .ok v w := by
  rcases hown.2 with ⟨rfl, rfl⟩ | ⟨g, cap, cur, rfl, _, _, hnc, _⟩
  · simp [Builtin.append_, run_underlying ht, sizeOf, typeInfo, hi, Builtin.lenOf, Builtin.firstCells]
  · simp [Builtin.append_, run_underlying ht, sizeOf, typeInfo, hi, Builtin.lenOf, Builtin.firstCells, hnc, storeCells]

theorem run_append_optk {P : Program} (w : World) (base : Nat) (t ty e : TypeId) (i : TypeInfo) (z : Value) (size bytes : Nat) (ht : P.underlying t = some (.slice e)) (hi : P.info? e = some i) (hz : i.zero = some z)
    (hsize : i.size = size) (hby : i.bytes = bytes) (hzs : z.cells.size = size) (hsz : 0 < size)
    (v : Value) (n : Nat) (xs : List Value) (hown : w.ownsRow base e size v n xs)
    (A : Option Addr) (m c : Nat) (news : List Value) (hl : news.length = m * size) (hr : RdO w A news) (h1 : ∀ u ∈ news, u.oneCell' = true) (hA : A = none → m = 0)
    (h63 : n + m ≤ 1000000) (hby2 : bytes ≤ 64) (hbase : base ≤ w.heap.size) :
    ∃ v' w', (Builtin.append_ #[t, t] ty #[v, .slice A m c]).run P w = .ok v' w' ∧ w'.ownsRow base e size v' (n + m) (xs ++ news) ∧ w.grownBy w' v.ownBlock ∧
      (v'.ownBlock = v.ownBlock ∨ v'.ownBlock = some w.heap.size) := by
  rcases A with _ | ad
  · obtain rfl := hA rfl
    have h0 : news = [] := by
      rcases news with _ | ⟨q, l⟩
      · rfl
      · simp at hl
    subst h0
    exact ⟨v, w, run_append_nothingk (P := P) w t ty e i ht hi base size v n xs hown c, by simpa using hown, World.grownBy.refl w _, .inl rfl⟩
  · refine run_append_atk (P := P) w base t ty e i z size bytes ht hi hz hsize hby hzs hsz v n xs hown ad m c news hl (fun j u hu => ?_) h1 (by unfold maxLen; omega) (Nat.le_trans (Nat.mul_le_mul h63 hby2) (by omega)) hbase
    have hj : j < news.length := (List.getElem?_eq_some_iff.1 hu).1
    obtain ⟨b, off, e, hc⟩ := hr (by omega)
    cases e
    rw [show (⟨b, off, none⟩ : Addr).add j = ⟨b, off + j, none⟩ from by unfold Addr.add; split <;> simp_all]
    rw [hc j hj, hu]

theorem wpList_append_optk {P : Program} {w : World} {ops : Array Oper} {rest : List Oper} {o : Oper} {a : Act} {Q : Exit → Act → World → Prop} (hgd : o.guard = none) (s x : Operand) (t : TypeId)
    (ho : o.op = .call { callee := .builtin .append, args := #[s, x], argTypes := #[t, t] })
    (base : Nat) (e : TypeId) (i : TypeInfo) (z : Value) (size bytes : Nat) (ht : P.underlying t = some (.slice e)) (hi : P.info? e = some i) (hz : i.zero = some z)
    (hsize : i.size = size) (hby : i.bytes = bytes) (hzs : z.cells.size = size) (hsz : 0 < size)
    (v : Value) (n : Nat) (xs : List Value) (hs : a.eval s = v) (hown : w.ownsRow base e size v n xs)
    (A : Option Addr) (m c : Nat) (news : List Value) (hx : a.eval x = .slice A m c) (hl : news.length = m * size) (hr : RdO w A news) (h1 : ∀ u ∈ news, u.oneCell' = true) (hA : A = none → m = 0)
    (h63 : n + m ≤ 1000000) (hby2 : bytes ≤ 64) (hbase : base ≤ w.heap.size)
    (h : ∀ v' w', w'.ownsRow base e size v' (n + m) (xs ++ news) → w.grownBy w' v.ownBlock → (v'.ownBlock = v.ownBlock ∨ v'.ownBlock = some w.heap.size) → wpList P ops Q rest (a.put o.dst v') w') :
    wpList P ops Q (o :: rest) a w := by
  obtain ⟨v', w', hrun, q1, q2, q3⟩ := run_append_optk (P := P) w base t o.type e i z size bytes ht hi hz hsize hby hzs hsz v n xs hown A m c news hl hr h1 hA h63 hby2 hbase
  exact Lib.wpList_append_run w hgd s x t t ho v _ hs hx v' w' hrun (h v' w' q1 q2 q3)

theorem step_append_optk {P : Program} {ops : Array Oper} {o : Oper} {a : Act} {w : World} {K : Act → World → Prop} {Q : Exit → Act → World → Prop} {E : Prop} (hgd : o.guard = none) (s x : Operand) (t : TypeId)
    (ho : o.op = .call { callee := .builtin .append, args := #[s, x], argTypes := #[t, t] })
    (base : Nat) (e : TypeId) (i : TypeInfo) (z : Value) (size bytes : Nat) (ht : P.underlying t = some (.slice e)) (hi : P.info? e = some i) (hz : i.zero = some z)
    (hsize : i.size = size) (hby : i.bytes = bytes) (hzs : z.cells.size = size) (hsz : 0 < size)
    (v : Value) (n : Nat) (xs : List Value) (hs : a.eval s = v) (hown : w.ownsRow base e size v n xs)
    (A : Option Addr) (m c : Nat) (news : List Value) (hx : a.eval x = .slice A m c) (hl : news.length = m * size) (hr : RdO w A news) (h1 : ∀ u ∈ news, u.oneCell' = true) (hA : A = none → m = 0)
    (h63 : n + m ≤ 1000000) (hby2 : bytes ≤ 64) (hbase : base ≤ w.heap.size)
    (h : ∀ v' w', w'.ownsRow base e size v' (n + m) (xs ++ news) → w.grownBy w' v.ownBlock → (v'.ownBlock = v.ownBlock ∨ v'.ownBlock = some w.heap.size) → K (a.put o.dst v') w') :
    if Region.wanted o (yielded ops a.tmps) = true then Oper.wp P o a w K Q else E := by
  have hw : Region.wanted o (yielded ops a.tmps) = true := by simp [Region.wanted, hgd]
  rw [if_pos hw]
  obtain ⟨v', w', hrun, q1, q2, q3⟩ := run_append_optk (P := P) w base t o.type e i z size bytes ht hi hz hsize hby hzs hsz v n xs hown A m c news hl hr h1 hA h63 hby2 hbase
  unfold Oper.wp execOp
  simp only [ho, resolve, invoke, builtin, Sem.run_bind, Sem.run_pure, Result.andThen_ok, List.map_toArray, List.map_cons, List.map_nil, hs, hx, hrun]
  exact h v' w' q1 q2 q3

/-- The head of a row reads as its head. -/
theorem rdo_head {w : World} {A : Option Addr} {c n r : Nat} {xs : List Value} (h : w.ownsRow 0 3 1 (.slice A n c) n xs) (hr : r ≤ n) : RdO w A (xs.take r) := by
  intro h0
  have hl : xs.length = n := by have := h.1; omega
  rw [List.length_take] at h0
  rcases h.2 with ⟨_, h1⟩ | ⟨g, cap, cur, e1, _⟩
  · omega
  · simp only [Value.slice.injEq] at e1
    obtain ⟨rfl, _, rfl⟩ := e1
    refine ⟨g, 0, rfl, fun i hi => ?_⟩
    rw [List.length_take] at hi
    rw [Nat.zero_add, h.cellAt i (by omega), List.getElem?_take, if_pos (by omega)]
theorem rdo_tail {w : World} {A : Option Addr} {c n r : Nat} {xs : List Value} (h : w.ownsRow 0 3 1 (.slice A n c) n xs) (hr : r ≤ n) : 0 < n - r → ∃ g, A = some ⟨g, 0, none⟩ ∧ RdO w (some ⟨g, r, none⟩) (xs.drop r) := by
  intro h0
  have hl : xs.length = n := by have := h.1; omega
  rcases h.2 with ⟨_, h1⟩ | ⟨g, cap, cur, e1, _⟩
  · omega
  · simp only [Value.slice.injEq] at e1
    obtain ⟨rfl, _, rfl⟩ := e1
    refine ⟨g, rfl, fun _ => ⟨g, r, rfl, fun i hi => ?_⟩⟩
    rw [List.length_drop] at hi
    rw [h.cellAt (r + i) (by omega), List.getElem?_drop]

/-- A new row that was laid into the document's Keep. -/
theorem rdo_keep {w w' : World} {A : Option Addr} {news : List Value} (h : RdO w A news) (hk : Keeps (fun _ => False) w w') : RdO w' A news := fun h0 => by
  obtain ⟨b, off, e, hc⟩ := h h0
  refine ⟨b, off, e, fun i hi => ?_⟩
  have hb : b < w.heap.size := cell_ltk (v := news[i]) (by rw [hc i hi]; exact List.getElem?_eq_getElem hi)
  exact (hk.cell hb (fun h => h)).trans (hc i hi)

/-- What the document's Drop leaves. -/
def DocDone (S : Nat → Prop) (yp : Nat) (mx : Int) (M : List (Int × Int)) (w : World) (e : Ending) (w' : World) : Prop :=
  ∃ va vx, e = .returned (.tuple #[]) ∧ DocIs w' (fun k => S k ∨ (w.heap.size ≤ k ∧ k < w'.heap.size)) yp mx va vx M ∧ Keeps S w w'

/-- A row built anew, laid into the document's Keep. -/
theorem DocR.newA {w w2 : World} {S : Nat → Prop} {yp B : Nat} {mx : Int} {va vx v : Value} {na nb n : Nat} {la bs xs : List Value} (h : DocR w S yp mx va vx na la nb bs) (hS : ∀ k, B ≤ k → S k) (hyp : yp < B) (hB : B ≤ w.heap.size)
    (hk : Keeps (fun _ => False) w w2) (ho : w2.ownsRow 0 3 1 v n xs) (hb : ∀ g, v.ownBlock = some g → w.heap.size ≤ g) :
    DocR (w2.setCell ⟨yp, 1, none⟩ v) S yp mx v vx n xs nb bs ∧ Keeps S w (w2.setCell ⟨yp, 1, none⟩ v) ∧ w2.cell? ⟨yp, 1, none⟩ = some va ∧ w2.frozen? ⟨yp, 1, none⟩ = false :=
  have h2 := h.keep hk (fun _ _ _ h => h)
  ⟨h2.setA ho fun g hg => by have := hb g hg; exact ⟨hS g (by omega), by omega⟩, (hk.mono (T := S) (fun _ _ h => h.elim)).setCell (fun _ => h.sp) _, h2.c1, h2.fz 1⟩
theorem DocR.newX {w w2 : World} {S : Nat → Prop} {yp B : Nat} {mx : Int} {va vx v : Value} {na nb n : Nat} {la bs xs : List Value} (h : DocR w S yp mx va vx na la nb bs) (hS : ∀ k, B ≤ k → S k) (hyp : yp < B) (hB : B ≤ w.heap.size)
    (hk : Keeps (fun _ => False) w w2) (ho : w2.ownsRow 0 3 1 v n xs) (hb : ∀ g, v.ownBlock = some g → w.heap.size ≤ g) :
    DocR (w2.setCell ⟨yp, 2, none⟩ v) S yp mx va v na la n xs ∧ Keeps S w (w2.setCell ⟨yp, 2, none⟩ v) ∧ w2.cell? ⟨yp, 2, none⟩ = some vx ∧ w2.frozen? ⟨yp, 2, none⟩ = false :=
  have h2 := h.keep hk (fun _ _ _ h => h)
  ⟨h2.setX ho fun g hg => by have := hb g hg; exact ⟨hS g (by omega), by omega⟩, (hk.mono (T := S) (fun _ _ h => h.elim)).setCell (fun _ => h.sp) _, h2.c2, h2.fz 2⟩

theorem tv_take (L : List (Int × Int)) (r : Nat) : (tv L).take r = tv (L.take r) := by simp [tv, List.map_take]
theorem xv_take (L : List (Int × Int)) (r : Nat) : (xv L).take r = xv (L.take r) := by simp [xv, List.map_take]
theorem tv_drop (L : List (Int × Int)) (r : Nat) : (tv L).drop r = tv (L.drop r) := by simp [tv, List.map_drop]
theorem xv_drop (L : List (Int × Int)) (r : Nat) : (xv L).drop r = xv (L.drop r) := by simp [xv, List.map_drop]

set_option maxRecDepth 100000 in
set_option maxHeartbeats 2000000 in
theorem ddrop_any (w : World) (S : Nat → Prop) (yp : Nat) (mx : Int) (va vx : Value) (L : List (Int × Int)) (H : DocIs w S yp mx va vx L) (hn : L.length ≤ 1000) (x : Int) (r : Nat) (hr : r ≤ L.length)
    (h1 : ∀ t, t < r → (L.getD t (0, 0)).1 ≤ x) (h2 : ∀ t, r ≤ t → t < L.length → x < (L.getD t (0, 0)).1) :
    Calls Try.prog 19 #[.pointer (some ⟨yp, 0, none⟩), .int .i64 x] w (DocDone S yp mx (L.take r) w) := by
  obtain ⟨i0, hi, hz0, hz1, hz2⟩ := info_parts info3k
  obtain ⟨A, ca, rfl⟩ := own_formk H.ownA
  obtain ⟨B, cb, rfl⟩ := own_formk H.ownX
  obtain ⟨N, hN⟩ : ∃ N : Nat, N = L.length := ⟨_, rfl⟩
  have hTl : (L.take r).length = r := by rw [List.length_take]; omega
  have hA : ∀ k, k < N → ∃ g, A = some ⟨g, 0, none⟩ ∧ w.cell? ⟨g, k, none⟩ = some (.int .i64 (L.getD k (0, 0)).1) := fun k hk => time_at H.ownA rfl (by omega)
  have hn0 : ∀ {n : Nat} {c : Nat} {xs : List Value} {C : Option Addr}, w.ownsRow 0 3 1 (.slice C n c) n xs → C = none → n = 0 := fun h e => by
    rcases h.2 with ⟨_, h0⟩ | ⟨g, cap, cur, e1, _⟩
    · exact h0
    · simp only [Value.slice.injEq] at e1
      rw [e1.1] at e
      cases e
  have hA0 : A = none → r = 0 := fun e => by have := hn0 H.ownA e; omega
  have hB0 : B = none → r = 0 := fun e => by have := hn0 H.ownX e; omega
  -- behind the first store
  have hp1 : ∀ (w2 : World) (v2 : Value), w2.ownsRow 0 3 1 v2 (0 + r) ([] ++ (tv L).take r) → (w.alloc (.cells #[] 3)).grownBy w2 (Value.slice (some ⟨w.heap.size, 0, none⟩) 0 0).ownBlock → (v2.ownBlock = (Value.slice (some ⟨w.heap.size, 0, none⟩) 0 0).ownBlock ∨ v2.ownBlock = some (w.alloc (.cells #[] 3)).heap.size) →
      DocR (w2.setCell ⟨yp, 1, none⟩ v2) (fun k => S k ∨ w.heap.size ≤ k) yp mx v2 (.slice B L.length cb) r (tv (L.take r)) L.length (xv L) ∧ Keeps (fun k => S k ∨ w.heap.size ≤ k) w (w2.setCell ⟨yp, 1, none⟩ v2) ∧ w2.cell? ⟨yp, 1, none⟩ = some (.slice A L.length ca) ∧ w2.frozen? ⟨yp, 1, none⟩ = false := fun w2 v2 ho hg hb => by
    rw [Nat.zero_add, List.nil_append, tv_take] at ho
    refine (H.wider (T := fun k => S k ∨ w.heap.size ≤ k) fun _ h => .inl h).newA (B := w.heap.size) (fun k hk => .inr hk) H.lt (Nat.le_refl _) (((Keeps.refl _ w).alloc _).grown hg fun k e hlt => by have : w.heap.size = k := Option.some.inj e; omega) ho fun g hg2 => ?_
    rcases hb with e | e
    · rw [e] at hg2
      exact Nat.le_of_eq (Option.some.inj hg2)
    · rw [e] at hg2
      have := Option.some.inj hg2
      simp at this
      omega
  have hp2 : ∀ (w3 : World) (v2 : Value), DocR w3 (fun k => S k ∨ w.heap.size ≤ k) yp mx v2 (.slice B L.length cb) r (tv (L.take r)) L.length (xv L) → Keeps (fun k => S k ∨ w.heap.size ≤ k) w w3 → ∀ (w5 : World) (v5 : Value), w5.ownsRow 0 3 1 v5 (0 + r) ([] ++ (xv L).take r) → (w3.alloc (.cells #[] 3)).grownBy w5 (Value.slice (some ⟨w3.heap.size, 0, none⟩) 0 0).ownBlock → (v5.ownBlock = (Value.slice (some ⟨w3.heap.size, 0, none⟩) 0 0).ownBlock ∨ v5.ownBlock = some (w3.alloc (.cells #[] 3)).heap.size) →
      DocDone S yp mx (L.take r) w (.returned (.tuple #[])) (w5.setCell ⟨yp, 2, none⟩ v5) ∧ w5.cell? ⟨yp, 2, none⟩ = some (.slice B L.length cb) ∧ w5.frozen? ⟨yp, 2, none⟩ = false := fun w3 v2 h3 k3 w5 v5 ho hg hb => by
    rw [Nat.zero_add, List.nil_append, xv_take] at ho
    have hlt := H.lt
    have hsz := k3.size
    have h := h3.newX (B := w.heap.size) (fun k hk => .inr hk) hlt hsz (((Keeps.refl _ w3).alloc _).grown hg fun k e hlt => by have : w3.heap.size = k := Option.some.inj e; omega) ho fun g hg2 => by
      rcases hb with e | e
      · rw [e] at hg2
        exact Nat.le_of_eq (Option.some.inj hg2)
      · rw [e] at hg2
        have := Option.some.inj hg2
        simp at this
        omega
    refine ⟨⟨v2, v5, rfl, ?_, (k3.trans h.2.1 (fun _ _ h => h)).mono (fun k hk h => by rcases h with h | h; exact h; omega)⟩, h.2.2⟩
    have hd : DocIs (w5.setCell ⟨yp, 2, none⟩ v5) (fun k => S k ∨ w.heap.size ≤ k) yp mx v2 v5 (L.take r) := by
      unfold DocIs
      rw [hTl]
      exact h.1
    refine (hd.narrow).wider fun k hk => ?_
    rcases hk.1 with h | h
    · exact .inl h
    · exact .inr ⟨h, hk.2⟩
  have RT := Lib.hid (rdo_keep (rdo_head H.ownA hr) ((Keeps.refl _ w).alloc (.cells #[] 3)))
  have RX : Hid (∀ w3 v2, DocR w3 (fun k => S k ∨ w.heap.size ≤ k) yp mx v2 (.slice B L.length cb) r (tv (L.take r)) L.length (xv L) → RdO (w3.alloc (.cells #[] 3)) B ((xv L).take r)) := fun w3 v2 h3 => rdo_keep (rdo_head h3.ownX hr) ((Keeps.refl _ w3).alloc (.cells #[] 3))
  have OW : Hid (∀ w : World, (w.alloc (.cells #[] 3)).ownsRow 0 3 1 (.slice (some ⟨w.heap.size, 0, none⟩) 0 0) 0 []) := fun w => World.ownsRow_lit (base := 0) (e := 3) (size := 1) w #[] 0 (Nat.zero_le _) (by unfold maxLen; omega) rfl
  have c1 := H.c1
  have c2 := H.c2
  have hlt := H.lt
  have lt1 : ((tv L).take r).length = r * 1 := by rw [List.length_take, tv_length]; omega
  have lx1 : ((xv L).take r).length = r * 1 := by rw [List.length_take, xv_length]; omega
  have OT := Lib.hid (fun u (hu : u ∈ (tv L).take r) => tv_one L u (List.mem_of_mem_take hu))
  have OX := Lib.hid (fun u (hu : u ∈ (xv L).take r) => xv_one L u (List.mem_of_mem_take hu))
  have hca : N ≤ ca := by
    rcases H.ownA.2 with ⟨e, h0⟩ | ⟨g, cap, cur, e1, _, _, hnc, _⟩
    · omega
    · simp only [Value.slice.injEq] at e1
      omega
  have hcb : N ≤ cb := by
    rcases H.ownX.2 with ⟨e, h0⟩ | ⟨g, cap, cur, e1, _, _, hnc, _⟩
    · omega
    · simp only [Value.slice.injEq] at e1
      omega
  rw [← hN] at c1 c2 hn hp1 hp2 RX
  have HP1 := Lib.hid hp1
  have HP2 := Lib.hid hp2
  have HA := Lib.hid hA
  have HN := Lib.hid hN
  have H1 := Lib.hid h1
  have H2 := Lib.hid h2
  have LT := Lib.hid lt1
  have LX := Lib.hid lx1
  have hA0 := Lib.hid hA0
  have hB0 := Lib.hid hB0
  have hrN : r ≤ N := by omega
  clear H hN hA h1 h2 hTl hn0 hp1 hp2 lt1 lx1 hr
  go_enter Try.func19, Try.ntmps19
  go_upto_block 0 with fail
  go_cut [4] (fun s4 wx => s4 = .int .i64 (r : Int) ∧ wx = w)
  case first =>
    go_wp2_with fail
    go_loopw [4] (fun s4 wr => ∃ k : Nat, k ≤ r ∧ s4 = .int .i64 (k : Int) ∧ wr = w) (fun s4 _ => r - (intOf s4).toNat)
    case atStart => exact ⟨0, Nat.zero_le _, rfl, rfl⟩
    case round =>
      obtain ⟨k, hk, rfl, rfl⟩ := hrel
      by_cases hkN : k < N
      · have hkN' : (k : Int) < (N : Int) := by omega
        have hk0 : (0 : Int) ≤ (k : Int) := by omega
        obtain ⟨ga, rfl, ha⟩ := HA.out k (by omega)
        by_cases hkr : k < r
        · have hle := H1.out k hkr
          obtain ⟨y, hy⟩ : ∃ y : Int, y = (L.getD k (0, 0)).1 := ⟨_, rfl⟩
          rw [← hy] at ha hle
          have hd : decide (y ≤ x) = true := decide_eq_true hle
          clear hy
          go_wp2
          go_roundw
          case rel => exact ⟨k + 1, by omega, by go_num, by trivial⟩
          case measure => simp [intOf]; omega
        · obtain rfl : k = r := by omega
          have hle := H2.out k (Nat.le_refl _) (by rw [← HN.out]; exact hkN)
          obtain ⟨y, hy⟩ : ∃ y : Int, y = (L.getD k (0, 0)).1 := ⟨_, rfl⟩
          rw [← hy] at ha hle
          have hyx : ¬ y ≤ x := by omega
          have hd : decide (y ≤ x) = false := decide_eq_false hyx
          clear hy
          go_wp2_with fail
          go_meet
          exact ⟨rfl, by trivial⟩
      · obtain rfl : k = r := by omega
        have hkN' : ¬ (k : Int) < (N : Int) := by omega
        have hd : decide ((k : Int) < (N : Int)) = false := decide_eq_false hkN'
        go_wp2_with fail
        go_meet
        exact ⟨rfl, by trivial⟩
  case rest =>
    obtain ⟨rfl, rfl⟩ := hcut
    have hr0 : (0 : Int) ≤ (r : Int) := by omega
    have hrNI : (r : Int) ≤ (N : Int) := by omega
    have hrca : (r : Int) ≤ (ca : Int) := by omega
    have hrcb : (r : Int) ≤ (cb : Int) := by omega
    have hypw : yp ≠ wc.heap.size := by omega
    go_upto_region 4 with (at_builtin; refine wpList_append_optk rfl (.tmp 26) (.tmp 32) 35 rfl 0 3 i0 _ 1 8 Try.underlying35 hi hz0 hz1 hz2 (by rfl) (by omega) _ 0 [] (by rfl) (OW.out _) A r ca ((tv L).take r) (by rfl) LT.out RT.out OT.out hA0.out (by omega) (by omega) (Nat.zero_le _) ?_
                           intro v2 w2 ho2 hg2 hb2
                           obtain ⟨A2, c2', rfl⟩ := own_formk ho2
                           have hq := HP1.out _ _ ho2 hg2 hb2
                           have HQ := Lib.hid (And.intro hq.1 hq.2.1)
                           have q1 := hq.2.2.1
                           have qf := hq.2.2.2
                           clear ho2 hg2 hb2 hq)
    obtain ⟨w3, hw3⟩ : ∃ w3 : World, w3 = w2.setCell ⟨yp, 1, none⟩ (.slice A2 (0 + r) c2') := ⟨_, rfl⟩
    rw [← hw3] at HQ
    simp only [Nat.zero_add] at hw3
    try rw [← hw3]
    have e2 := HQ.out.1.c2
    have RX3 := Lib.hid (RX w3 _ HQ.out.1)
    have s3 := HQ.out.2.size
    have hyp3 : yp ≠ w3.heap.size := by omega
    have hlt3 : yp < w3.heap.size := HQ.out.1.lt
    have e3 : (w3.alloc (.cells #[] 3)).cell? ⟨yp, 2, none⟩ = some (.slice B N cb) := (((Keeps.refl (fun _ => False) w3).alloc _).cell hlt3 (fun h => h)).trans e2
    have HP3 := Lib.hid (HP2.out w3 _ HQ.out.1 HQ.out.2)
    clear q1 qf hw3
    go_wp2_with (at_builtin; refine wpList_append_optk rfl (.tmp 37) (.tmp 43) 35 rfl 0 3 i0 _ 1 8 Try.underlying35 hi hz0 hz1 hz2 (by rfl) (by omega) _ 0 [] (by rfl) (OW.out _) B r cb ((xv L).take r) (by rfl) LX.out RX3.out OX.out hB0.out (by omega) (by omega) (Nat.zero_le _) ?_
                 intro v5 w5 ho5 hg5 hb5
                 obtain ⟨A5, c5', rfl⟩ := own_formk ho5
                 have hq := HP3.out _ _ ho5 hg5 hb5
                 have HF := Lib.hid hq.1
                 have q1 := hq.2.1
                 have qf := hq.2.2
                 clear ho5 hg5 hb5 hq)
    exact bodyPost_ret (v := .tuple #[]) (by simp [results, Try.results19, go_sem]) rfl (by have h := HF.out; simp only [Nat.zero_add] at h; exact h)

end Go.Proofs.Ytpighdioomjnmab
