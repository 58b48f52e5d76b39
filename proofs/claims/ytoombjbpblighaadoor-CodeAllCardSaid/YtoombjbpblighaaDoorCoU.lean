/-
  Layer 8: the reader's code. Written by an AI agent.
-/
import Derived.Test.YtoombjbpblighaaDoorCoT
import Derived.Deep.RegionWith
import Derived.Deep.RegionHeld
namespace Go.Proofs.YtoombjbpblighaaDoor
open Go Go.RowKit Go.Shelf
set_option linter.unusedVariables false
set_option linter.unusedSimpArgs false

theorem info3 : (Tryd.prog.info? 3).map (fun i => (i.zero, i.size, i.bytes)) = some (some (.int .i64 0), 1, 8) := by kernel_rfl

theorem step_append_atk {P : Program} {ops : Array Oper} {o : Oper} {a : Act} {w : World} {K : Act → World → Prop} {Q : Exit → Act → World → Prop} {E : Prop} (hgd : o.guard = none) (s x : Operand) (t : TypeId)
    (ho : o.op = .call { callee := .builtin .append, args := #[s, x], argTypes := #[t, t] })
    (base : Nat) (e : TypeId) (i : TypeInfo) (z : Value) (size bytes : Nat) (ht : P.underlying t = some (.slice e)) (hi : P.info? e = some i) (hz : i.zero = some z)
    (hsize : i.size = size) (hby : i.bytes = bytes) (hzs : z.cells.size = size) (hsz : 0 < size)
    (v : Value) (n : Nat) (xs : List Value) (hs : a.eval s = v) (hown : w.ownsRow base e size v n xs)
    (ad : Addr) (m c : Nat) (news : List Value) (hx : a.eval x = .slice (some ad) m c) (hl : news.length = m * size) (hnews : ∀ j u, news[j]? = some u → w.cell? (ad.add j) = some u) (h1 : ∀ u ∈ news, u.oneCell' = true)
    (h63 : n + m ≤ 1000000) (hby2 : bytes ≤ 64) (hbase : base ≤ w.heap.size)
    (h : ∀ v' w', w'.ownsRow base e size v' (n + m) (xs ++ news) → w.grownBy w' v.ownBlock → (v'.ownBlock = v.ownBlock ∨ v'.ownBlock = some w.heap.size) → K (a.put o.dst v') w') :
    if Region.wanted o (yielded ops a.tmps) = true then Oper.wp P o a w K Q else E := by
  have hw : Region.wanted o (yielded ops a.tmps) = true := by simp [Region.wanted, hgd]
  rw [if_pos hw]
  have hb : (n + m) * bytes ≤ 140737488355328 := Nat.le_trans (Nat.mul_le_mul h63 hby2) (by omega)
  obtain ⟨v', w', hrun, q1, q2, q3⟩ := run_append_atk (P := P) w base t o.type e i z size bytes ht hi hz hsize hby hzs hsz v n xs hown ad m c news hl hnews h1 (by unfold maxLen; omega) hb hbase
  unfold Oper.wp execOp
  simp only [ho, resolve, invoke, builtin, Sem.run_bind, Sem.run_pure, Result.andThen_ok, List.map_toArray, List.map_cons, List.map_nil, hs, hx, hrun]
  exact h v' w' q1 q2 q3
theorem own_rdZ {w : World} {A : Option Addr} {c n : Nat} {Z : List Int} (h : w.ownsRow 0 3 1 (.slice A n c) n (valZ Z)) (hn : n = Z.length) : RdZ w A Z := fun h0 => by
  rcases h.2 with ⟨e1, h1⟩ | ⟨g, cap, cur, e1, _⟩
  · omega
  · have e2 : A = some ⟨g, 0, none⟩ := by injection e1
    subst e2
    have hc := h.cells (g := g) rfl
    refine ⟨g, 0, rfl, fun k hk => ?_⟩
    have := hc k (.int .i64 (Z.getD k 0)) (by simp [valZ, List.getD, hk])
    rw [addr_addr] at this
    exact this
theorem entE_take (n : Int) (Z : List Int) (k : Nat) (h : k < Z.length) (s : RS) : entE n (Z.take (k + 1)) s = needE (decide (0 ≤ Z.getD k 0) && decide (Z.getD k 0 ≤ n)) (entE n (Z.take k) s) := by
  rw [take_snoc Z k h]
  unfold entE
  rw [List.foldl_append]
  rfl

/-- A block of two nothings. -/
structure Two (w : World) (B : Nat) : Prop where
  c0 : w.cell? ⟨B, 0, none⟩ = some (.slice none 0 0)
  c1 : w.cell? ⟨B, 1, none⟩ = some (.slice none 0 0)
  f0 : w.frozen? ⟨B, 0, none⟩ = false
  f1 : w.frozen? ⟨B, 1, none⟩ = false
theorem Two.lt {w : World} {B : Nat} (h : Two w B) : B < w.heap.size := cell_ltk h.c0
theorem Two.keep {S : Nat → Prop} {w w' : World} {B : Nat} (h : Two w B) (hk : Keeps S w w') (hn : ¬ S B) : Two w' B :=
  ⟨(hk.cell h.lt hn).trans h.c0, (hk.cell h.lt hn).trans h.c1, (hk.frozen h.lt hn).trans h.f0, (hk.frozen h.lt hn).trans h.f1⟩
/-- What stands while the code is read. -/
structure OutD (w0 w : World) (R B : Nat) (s : RS) (vI vE : Value) (L : List Ins) (Z : List Int) : Prop where
  rd : Rdr w R s
  oc : OutC w (B + 1) vI vE L Z
  tw : Two w B
  kw : Keeps (fun p => p = R) w0 w
theorem OutD.keep {w0 w w' : World} {R B : Nat} {s s' : RS} {vI vE : Value} {L : List Ins} {Z : List Int} (h : OutD w0 w R B s vI vE L Z) (hR : R < B) (hk : Keeps (fun p => p = R) w w') (hr : Rdr w' R s') : OutD w0 w' R B s' vI vE L Z :=
  ⟨hr, h.oc.keep hk (fun p hp e => by omega), h.tw.keep hk (by omega), h.kw.trans hk (fun _ _ h => h)⟩
theorem OutD.moreE {w0 w w1 w5 : World} {R B : Nat} {s : RS} {vI vE v5 : Value} {L : List Ins} {Z : List Int} (h : OutD w0 w R B s vI vE L Z) (hR : R < B) (hB : B = w0.heap.size) (z : Int) (hk : Keeps (fun _ => False) w w1) (ho : w5.ownsRow 0 3 1 v5 (Z.length + 1) (valZ Z ++ [.int .i64 z])) (hg : w1.grownBy w5 vE.ownBlock)
    (hb : v5.ownBlock = vE.ownBlock ∨ v5.ownBlock = some w1.heap.size) :
    OutD w0 (w5.setCell ⟨B + 1, 1, none⟩ v5) R B s vI v5 L (Z ++ [z]) ∧ w5.cell? ⟨B + 1, 1, none⟩ = some vE ∧ w5.frozen? ⟨B + 1, 1, none⟩ = false := by
  obtain ⟨h1, k1, c1, f1⟩ := h.oc.moreE z hk ho hg hb
  refine ⟨⟨h.rd.keepS k1 (fun p hp e => by omega), h1, h.tw.keep k1 (by omega), ?_⟩, c1, f1⟩
  exact h.kw.trans k1 (fun p hp e => by omega)
theorem OutD.moreI {w0 w w1 w5 : World} {R B : Nat} {s : RS} {vI vE v5 : Value} {L : List Ins} {Z : List Int} (h : OutD w0 w R B s vI vE L Z) (hR : R < B) (hB : B = w0.heap.size) (x : Ins) (hk : Keeps (fun _ => False) w w1) (ho : w5.ownsRow 0 52 4 v5 (L.length + 1) (flatI L ++ x.cells)) (hg : w1.grownBy w5 vI.ownBlock)
    (hb : v5.ownBlock = vI.ownBlock ∨ v5.ownBlock = some w1.heap.size) :
    OutD w0 (w5.setCell ⟨B + 1, 0, none⟩ v5) R B s v5 vE (L ++ [x]) Z ∧ w5.cell? ⟨B + 1, 0, none⟩ = some vI ∧ w5.frozen? ⟨B + 1, 0, none⟩ = false := by
  obtain ⟨h1, k1, c1, f1⟩ := h.oc.moreI x hk ho hg hb
  refine ⟨⟨h.rd.keepS k1 (fun p hp e => by omega), h1, h.tw.keep k1 (by omega), ?_⟩, c1, f1⟩
  exact h.kw.trans k1 (fun p hp e => by omega)
theorem OutD.start (w : World) (R B : Nat) (s : RS) (h : Rdr w R s) (hB : B = w.heap.size) : OutD w ((w.alloc (.cells #[.slice none 0 0, .slice none 0 0] 41)).alloc (.cells #[.slice none 0 0, .slice none 0 0] 41)) R B s (.slice none 0 0) (.slice none 0 0) [] [] := by
  subst hB
  obtain ⟨q0, q1, q2, q3⟩ := two_new w (.slice none 0 0) (.slice none 0 0) 41 rfl
  have k1 : Keeps (fun _ => False) w (w.alloc (.cells #[.slice none 0 0, .slice none 0 0] 41)) := (Keeps.refl _ _).alloc _
  have k2 : Keeps (fun _ => False) (w.alloc (.cells #[.slice none 0 0, .slice none 0 0] 41)) ((w.alloc (.cells #[.slice none 0 0, .slice none 0 0] 41)).alloc (.cells #[.slice none 0 0, .slice none 0 0] 41)) := (Keeps.refl _ _).alloc _
  have k := k1.trans k2 (fun _ _ h => h)
  have T : Two (w.alloc (.cells #[.slice none 0 0, .slice none 0 0] 41)) w.heap.size := ⟨q0, q1, q2, q3⟩
  have S := OutC.start (w.alloc (.cells #[.slice none 0 0, .slice none 0 0] 41))
  rw [show (w.alloc (.cells #[.slice none 0 0, .slice none 0 0] 41)).heap.size = w.heap.size + 1 by simp] at S
  exact ⟨h.keep k, S, T.keep k2 (fun h => h), k.mono (fun _ _ h => h.elim)⟩

set_option maxRecDepth 100000 in
set_option maxHeartbeats 16000000 in
theorem code_any (w0 : World) (hw : CodeW w0) (R : Nat) (hR : w0.heap.size ≤ R) (s : RS) (w : World) (k0 : Keeps (fun _ => False) w0 w) (h : Rdr w R s) :
    Calls Tryd.prog 54 #[.pointer (some ⟨R, 0, none⟩)] w fun e w' => (∃ vI vE, e = .returned (.agg #[vI, vE]) ∧ w'.ownsRow 0 52 4 vI (codeE s).2.1.length (flatI (codeE s).2.1) ∧ w'.ownsRow 0 3 1 vE (codeE s).2.2.length (valZ (codeE s).2.2) ∧ (∀ g, vI.ownBlock = some g → w.heap.size ≤ g) ∧ (∀ g, vE.ownBlock = some g → w.heap.size ≤ g)) ∧ Rdr w' R (codeE s).1 ∧ Keeps (fun p => p = R) w w' := by
  obtain ⟨i3, hi3, h3z0, h3z1, h3z2⟩ := info_parts info3
  obtain ⟨i52, hi52, h52z0, h52z1, h52z2⟩ := info_parts info52
  obtain ⟨B, hB⟩ : ∃ B, B = w.heap.size := ⟨_, rfl⟩
  have hRB : R < B := by rw [hB]; exact h.lt
  have HB := Lib.hid hB
  have W0 := Lib.hid hw
  have K0 := Lib.hid k0
  have hop := h.byte
  obtain ⟨m, hm⟩ : ∃ m, m = (oneE s).2 := ⟨_, rfl⟩
  rw [← hm] at hop
  obtain ⟨r0, hr0⟩ : ∃ r0, r0 = (oneE s).1 := ⟨_, rfl⟩
  obtain ⟨s1, hs1⟩ : ∃ s1, s1 = needE (decide (m ≤ 6)) r0 := ⟨_, rfl⟩
  obtain ⟨q, hq⟩ : ∃ q, q = entsE m.toNat s1 := ⟨_, rfl⟩
  obtain ⟨n, hn⟩ : ∃ n, n = (numE q.1).2 := ⟨_, rfl⟩
  obtain ⟨s2, hs2⟩ : ∃ s2, s2 = needE (decide (0 ≤ n) && decide (n ≤ 1200)) (numE q.1).1 := ⟨_, rfl⟩
  obtain ⟨s3, hs3⟩ : ∃ s3, s3 = entE n q.2 s2 := ⟨_, rfl⟩
  obtain ⟨t, ht⟩ : ∃ t, t = inssE n.toNat s3 := ⟨_, rfl⟩
  have HC : Hid (codeE s = (t.1, t.2, q.2)) := Lib.hid (by rw [ht, hs3, hs2, hn, hq, hs1, hr0, hm]; rfl)
  have OC : Hid (∀ w, Rdr w R s → Calls Tryd.prog 80 #[.pointer (some ⟨R, 0, none⟩)] w fun e w' => e = .returned (.int .i64 m) ∧ Rdr w' R r0 ∧ Keeps (fun p => p = R) w w') := Lib.hid (by rw [hm, hr0]; exact fun w h => one_any R s w h)
  have NC : Hid (∀ w, Rdr w R r0 → Calls Tryd.prog 81 #[.pointer (some ⟨R, 0, none⟩), .bool (decide (m ≤ 6))] w fun e w' => e = .returned (.tuple #[]) ∧ Rdr w' R s1 ∧ Keeps (fun p => p = R) w w') := Lib.hid (by rw [hs1]; exact fun w h => need_any R _ r0 w h)
  have ND : Hid (∀ w, Rdr w R q.1 → Calls Tryd.prog 82 #[.pointer (some ⟨R, 0, none⟩)] w fun e w' => e = .returned (.int .i64 n) ∧ Rdr w' R (numE q.1).1 ∧ Keeps (fun p => p = R) w w') := Lib.hid (by rw [hn]; exact fun w h => num_any R q.1 w h)
  have NE : Hid (∀ w b, b = (decide (0 ≤ n) && decide (n ≤ 1200)) → Rdr w R (numE q.1).1 → Calls Tryd.prog 81 #[.pointer (some ⟨R, 0, none⟩), .bool b] w fun e w' => e = .returned (.tuple #[]) ∧ Rdr w' R s2 ∧ Keeps (fun p => p = R) w w') := Lib.hid (by rw [hs2]; exact fun w b hb h => hb ▸ need_any R _ _ w h)
  have HQ := Lib.hid hq
  have HS3 := Lib.hid hs3
  have HS2 := Lib.hid hs2
  have HT := Lib.hid ht
  have H := Lib.hid h
  have hn8 : n ≤ 9223372036854775807 ∧ -9223372036854775808 ≤ n := by rw [hn]; show wrap64 _ ≤ _ ∧ _ ≤ wrap64 _; unfold wrap64; omega
  have H1200 : Hid (s3.e = 0 → n ≤ 1200) := Lib.hid (fun g => by
    rw [hs3] at g
    have g2 := (entE_ok n q.2 s2 g).1
    rw [hs2] at g2
    have g3 := (needE_ok g2).1
    rw [Bool.and_eq_true, decide_eq_true_eq, decide_eq_true_eq] at g3
    exact g3.2)
  clear hm hr0 hs1 hq hn hs2 hs3 ht hw k0 h hB
  rw [← HB.out]
  go_enter Tryd.func54, Tryd.ntmps54
  go_upto_region 2 with fail
  have D0 := OutD.start w R B s H.out HB.out
  rw [← HB.out]
  generalize (w.alloc _).alloc _ = wz at D0 ⊢
  have HD0 := Lib.hid D0
  clear D0 H
  go_wp2_with fail
  refine (OC.out wz HD0.out.rd).mono ?_
  rintro e w1 ⟨rfl, r1, k1⟩
  have HD1 := Lib.hid (HD0.out.keep hRB k1 r1)
  clear k1 r1 HD0 OC
  go_wp2_with fail
  refine (NC.out w1 HD1.out.rd).mono ?_
  rintro e w2 ⟨rfl, r2, k2⟩
  have HD2 := Lib.hid (HD1.out.keep hRB k2 r2)
  clear k2 r2 HD1 NC
  go_upto_block 0 with fail
  go_cut [5] from 16 to 34 (fun s5 wx => ∃ vE, OutD w wx R B q.1 (.slice none 0 0) vE [] q.2 ∧ q.2.length ≤ 256)
  case first =>
    go_wp2_with fail
    go_loopw [5] (fun s5 wr => ∃ (i : Nat) (vE : Value) (si : RS) (Zi : List Int), (i : Int) ≤ m ∧ s5 = .int .i64 i ∧ OutD w wr R B si (.slice none 0 0) vE [] Zi ∧ Zi.length = i ∧ q = ((entsE (m.toNat - i) si).1, Zi ++ (entsE (m.toNat - i) si).2)) (fun s5 _ => 256 - (intOf s5).toNat)
    case atStart => exact ⟨0, _, s1, [], by omega, rfl, HD2.out, rfl, by rw [HQ.out]; simp⟩
    case round =>
      obtain ⟨i, vE, si, Zi, him, rfl, hd, hzl, hqi⟩ := hrel
      have HD := Lib.hid hd
      have HQI := Lib.hid hqi
      have HZL := Lib.hid hzl
      obtain ⟨A0, c0, rs⟩ := hd.rd
      have e1 := rs.c1
      clear hd hqi hzl rs
      go_upto_region 5 with fail
      go_cut [25] from 16 to 34 (fun s25 wx => s25 = .bool (decide ((i : Int) < m ∧ si.e = 0)) ∧ wx = wr)
      case first =>
        by_cases h1 : (i : Int) < m
        · have h1d : decide ((i : Int) < m) = true := decide_eq_true h1
          by_cases h2 : si.e = 0
          · have h2I : (si.e : Int) = 0 := by omega
            have h2d : decide ((si.e : Int) = 0) = true := decide_eq_true h2I
            rw [h2I] at e1
            have hb : Hid (decide ((i : Int) < m ∧ si.e = 0) = true) := Lib.hid (decide_eq_true ⟨h1, h2⟩)
            go_wp2
            go_meet
            exact ⟨by rw [hb.out], rfl⟩
          · have h2I : ¬ (si.e : Int) = 0 := by omega
            have h2d : decide ((si.e : Int) = 0) = false := decide_eq_false h2I
            have hb : Hid (decide ((i : Int) < m ∧ si.e = 0) = false) := Lib.hid (decide_eq_false (fun h => h2 h.2))
            obtain ⟨ev, hev⟩ : ∃ ev, ev = (si.e : Int) := ⟨_, rfl⟩
            rw [← hev] at e1 h2I h2d
            have hbq : Hid ((ev == 0) = false) := Lib.hid (by simpa using h2I)
            clear hev h2
            go_wp2
            go_meet
            exact ⟨by rw [hb.out, hbq.out], rfl⟩
        · have h1d : decide ((i : Int) < m) = false := decide_eq_false h1
          have hb : Hid (decide ((i : Int) < m ∧ si.e = 0) = false) := Lib.hid (decide_eq_false (fun h => h1 h.1))
          go_wp2
          go_meet
          exact ⟨by rw [hb.out], rfl⟩
      case rest =>
        obtain ⟨rfl, hwc⟩ := hcut
        rw [hwc]
        clear hwc
        by_cases hc : (i : Int) < m ∧ si.e = 0
        · have hcd : decide ((i : Int) < m ∧ si.e = 0) = true := decide_eq_true hc
          rw [hcd]
          obtain ⟨z, hz⟩ : ∃ z, z = (numE si).2 := ⟨_, rfl⟩
          have HDd := Lib.hid (HD.out.keep hRB (Keeps.refl (fun p => p = R) wr).drew (HD.out.rd.keep (Keeps.refl (fun _ => False) wr).drew))
          have NA := num_any R si wr.drew HDd.out.rd
          rw [← hz] at NA
          have hz0 := HD.out.oc
          have c1 := hz0.c1
          have hC := hz0.lt
          have NAH := Lib.hid NA
          have hzl9 : Zi.length ≤ 256 := by have := HZL.out; omega
          have him2 : (i : Int) + 1 ≤ m := by have := hc.1; omega
          have HQ2 : Hid (q = ((entsE (m.toNat - (i + 1)) (numE si).1).1, (Zi ++ [z]) ++ (entsE (m.toNat - (i + 1)) (numE si).1).2)) := Lib.hid (by
            have h := entsE_snoc (m.toNat - (i + 1)) si hc.2 Zi (T := q) (by rw [show m.toNat - (i + 1) + 1 = m.toNat - i by omega]; exact HQI.out)
            rw [hz]
            exact h)
          have HZL2 : Hid ((Zi ++ [z]).length = i + 1) := Lib.hid (by rw [List.length_append, HZL.out]; rfl)
          obtain ⟨zl, hzl⟩ : ∃ zl, zl = Zi.length := ⟨_, rfl⟩
          rw [← hzl] at hzl9
          have HZn := Lib.hid hzl
          have hC0 := hRB
          clear hz NA hz0 hzl e1 hcd hc
          go_upto_region 7 with fail
          refine wp_region_held_drew (S := fun _ => True) (by kernel_rfl) trivial (fun _ => ?_)
          refine wpAnyH_take (i := 0) (v := ?_) rfl (by kernel_rfl) (by kernel_rfl) (by kernel_rfl) (fun _ _ _ h => h) (Or.inl ⟨by rfl, ?_⟩) trivial ?_
          rotate_left
          · (intro w' hSw; (try dsimp only at hSw); go_simp; (try (with_reducible rfl)))
          simp only [Act.put, List.getElem_toArray, List.getElem_cons_zero, List.setIfInBounds_toArray, List.set_cons_succ, List.set_cons_zero]
          refine wpAnyH_take (i := 2) (v := ?_) rfl (by kernel_rfl) (by kernel_rfl) (by kernel_rfl) (fun _ _ _ h => h) (Or.inl ⟨by rfl, ?_⟩) trivial ?_
          rotate_left
          · (intro w' hSw; (try dsimp only at hSw); go_simp; (try (with_reducible rfl)))
          simp only [Act.put, List.getElem_toArray, List.getElem_cons_succ, List.getElem_cons_zero, List.setIfInBounds_toArray, List.set_cons_succ, List.set_cons_zero]
          refine wpAnyH_ready (rs := [1, 3]) (by kernel_rfl) (by simp) ?_
          refine AllReadyH.cons rfl (fun K hK => ?_) ?_
          · go_simp
            refine hK.out _ _ trivial (fun _ => ?_)
            clear hK K
            refine wpAnyH_ready (rs := [3]) (by kernel_rfl) (by simp) ?_
            refine AllReadyH.cons rfl (fun K hK => ?_) AllReadyH.nil
            go_simp
            refine NAH.out.mono ?_
            rintro e w2 ⟨rfl, r2, k2⟩
            have HDx := Lib.hid (HDd.out.keep hRB k2 r2)
            have d1 := HDx.out.oc.c1
            have hC2 := HDx.out.oc.lt
            clear r2 k2
            refine hK.out _ _ trivial (fun _ => ?_)
            clear hK K
            refine wpAnyH_ready (rs := [4]) (by kernel_rfl) (by simp) ?_
            refine AllReadyH.cons rfl (fun K hK => ?_) AllReadyH.nil
            go_simp
            refine hK.out _ _ trivial (fun _ => ?_)
            clear hK K
            refine wpAnyH_ready (rs := [5]) (by kernel_rfl) (by simp) ?_
            refine AllReadyH.cons rfl (fun K hK => ?_) AllReadyH.nil
            refine step_append_atk (by rfl) (.tmp 29) (.tmp 32) 39 (by rfl) 0 3 i3 _ 1 8 Tryd.underlying39 hi3 h3z0 h3z1 h3z2 (by rfl) (by omega) vE zl (valZ Zi) (by rfl) (by rw [HZn.out]; exact (HDx.out.oc.keep ((Keeps.refl (fun _ => False) w2).alloc _) (fun _ _ h => h)).oE) ⟨w2.heap.size, 0, none⟩ 1 1 (valZ [z]) (by rfl) (by rfl) (news1 _ 3 rfl) (valZ_one _) (by omega) (by omega) (Nat.zero_le _) ?_
            intro v5 w5 h5 g5 b5
            obtain ⟨A5, c5', rfl⟩ := own_formk h5
            have hmm := HDx.out.moreE hRB HB.out z ((Keeps.refl (fun _ => False) w2).alloc _) (by rw [← HZn.out]; exact h5) g5 b5
            have HM := Lib.hid hmm.1
            have m1 := hmm.2.1
            have m2 := hmm.2.2
            clear hmm h5 g5 b5
            refine hK.out _ _ trivial (fun _ => ?_)
            clear hK K
            refine wpAnyH_take (i := 6) (v := ?_) rfl (by kernel_rfl) (by kernel_rfl) (by kernel_rfl) (fun _ _ _ h => h) (Or.inl ⟨by rfl, ?_⟩) trivial ?_
            rotate_left
            · (intro w' hSw; (try dsimp only at hSw); go_simp; (try (with_reducible rfl)))
            simp only [Act.put, List.getElem_toArray, List.getElem_cons_succ, List.getElem_cons_zero, List.setIfInBounds_toArray, List.set_cons_succ, List.set_cons_zero]
            refine wpAnyH_ready (rs := [7]) (by kernel_rfl) (by simp) ?_
            refine AllReadyH.cons rfl (fun K hK => ?_) AllReadyH.nil
            go_simp
            refine hK.out _ _ trivial (fun _ => ?_)
            clear hK K
            refine wpAnyH_done (by kernel_rfl) ?_ _
            have HMM := HM.out
            go_wp2
            go_roundw
            case rel => exact ⟨i + 1, _, (numE si).1, Zi ++ [z], by omega, by go_num, HM.out, HZL2.out, HQ2.out⟩
            case measure => simp [intOf]; omega
          refine AllReadyH.cons rfl (fun K hK => ?_) AllReadyH.nil
          · go_simp
            refine NAH.out.mono ?_
            rintro e w2 ⟨rfl, r2, k2⟩
            have HDx := Lib.hid (HDd.out.keep hRB k2 r2)
            have d1 := HDx.out.oc.c1
            have hC2 := HDx.out.oc.lt
            clear r2 k2
            refine hK.out _ _ trivial (fun _ => ?_)
            clear hK K
            refine wpAnyH_ready (rs := [1, 4]) (by kernel_rfl) (by simp) ?_
            refine AllReadyH.cons rfl (fun K hK => ?_) ?_
            · go_simp
              refine hK.out _ _ trivial (fun _ => ?_)
              clear hK K
              refine wpAnyH_ready (rs := [4]) (by kernel_rfl) (by simp) ?_
              refine AllReadyH.cons rfl (fun K hK => ?_) AllReadyH.nil
              go_simp
              refine hK.out _ _ trivial (fun _ => ?_)
              clear hK K
              refine wpAnyH_ready (rs := [5]) (by kernel_rfl) (by simp) ?_
              refine AllReadyH.cons rfl (fun K hK => ?_) AllReadyH.nil
              refine step_append_atk (by rfl) (.tmp 29) (.tmp 32) 39 (by rfl) 0 3 i3 _ 1 8 Tryd.underlying39 hi3 h3z0 h3z1 h3z2 (by rfl) (by omega) vE zl (valZ Zi) (by rfl) (by rw [HZn.out]; exact (HDx.out.oc.keep ((Keeps.refl (fun _ => False) w2).alloc _) (fun _ _ h => h)).oE) ⟨w2.heap.size, 0, none⟩ 1 1 (valZ [z]) (by rfl) (by rfl) (news1 _ 3 rfl) (valZ_one _) (by omega) (by omega) (Nat.zero_le _) ?_
              intro v5 w5 h5 g5 b5
              obtain ⟨A5, c5', rfl⟩ := own_formk h5
              have hmm := HDx.out.moreE hRB HB.out z ((Keeps.refl (fun _ => False) w2).alloc _) (by rw [← HZn.out]; exact h5) g5 b5
              have HM := Lib.hid hmm.1
              have m1 := hmm.2.1
              have m2 := hmm.2.2
              clear hmm h5 g5 b5
              refine hK.out _ _ trivial (fun _ => ?_)
              clear hK K
              refine wpAnyH_take (i := 6) (v := ?_) rfl (by kernel_rfl) (by kernel_rfl) (by kernel_rfl) (fun _ _ _ h => h) (Or.inl ⟨by rfl, ?_⟩) trivial ?_
              rotate_left
              · (intro w' hSw; (try dsimp only at hSw); go_simp; (try (with_reducible rfl)))
              simp only [Act.put, List.getElem_toArray, List.getElem_cons_succ, List.getElem_cons_zero, List.setIfInBounds_toArray, List.set_cons_succ, List.set_cons_zero]
              refine wpAnyH_ready (rs := [7]) (by kernel_rfl) (by simp) ?_
              refine AllReadyH.cons rfl (fun K hK => ?_) AllReadyH.nil
              go_simp
              refine hK.out _ _ trivial (fun _ => ?_)
              clear hK K
              refine wpAnyH_done (by kernel_rfl) ?_ _
              have HMM := HM.out
              go_wp2
              go_roundw
              case rel => exact ⟨i + 1, _, (numE si).1, Zi ++ [z], by omega, by go_num, HM.out, HZL2.out, HQ2.out⟩
              case measure => simp [intOf]; omega
            refine AllReadyH.cons rfl (fun K hK => ?_) AllReadyH.nil
            · go_simp
              refine hK.out _ _ trivial (fun _ => ?_)
              clear hK K
              refine wpAnyH_ready (rs := [1]) (by kernel_rfl) (by simp) ?_
              refine AllReadyH.cons rfl (fun K hK => ?_) AllReadyH.nil
              go_simp
              refine hK.out _ _ trivial (fun _ => ?_)
              clear hK K
              refine wpAnyH_ready (rs := [5]) (by kernel_rfl) (by simp) ?_
              refine AllReadyH.cons rfl (fun K hK => ?_) AllReadyH.nil
              refine step_append_atk (by rfl) (.tmp 29) (.tmp 32) 39 (by rfl) 0 3 i3 _ 1 8 Tryd.underlying39 hi3 h3z0 h3z1 h3z2 (by rfl) (by omega) vE zl (valZ Zi) (by rfl) (by rw [HZn.out]; exact (HDx.out.oc.keep ((Keeps.refl (fun _ => False) w2).alloc _) (fun _ _ h => h)).oE) ⟨w2.heap.size, 0, none⟩ 1 1 (valZ [z]) (by rfl) (by rfl) (news1 _ 3 rfl) (valZ_one _) (by omega) (by omega) (Nat.zero_le _) ?_
              intro v5 w5 h5 g5 b5
              obtain ⟨A5, c5', rfl⟩ := own_formk h5
              have hmm := HDx.out.moreE hRB HB.out z ((Keeps.refl (fun _ => False) w2).alloc _) (by rw [← HZn.out]; exact h5) g5 b5
              have HM := Lib.hid hmm.1
              have m1 := hmm.2.1
              have m2 := hmm.2.2
              clear hmm h5 g5 b5
              refine hK.out _ _ trivial (fun _ => ?_)
              clear hK K
              refine wpAnyH_take (i := 6) (v := ?_) rfl (by kernel_rfl) (by kernel_rfl) (by kernel_rfl) (fun _ _ _ h => h) (Or.inl ⟨by rfl, ?_⟩) trivial ?_
              rotate_left
              · (intro w' hSw; (try dsimp only at hSw); go_simp; (try (with_reducible rfl)))
              simp only [Act.put, List.getElem_toArray, List.getElem_cons_succ, List.getElem_cons_zero, List.setIfInBounds_toArray, List.set_cons_succ, List.set_cons_zero]
              refine wpAnyH_ready (rs := [7]) (by kernel_rfl) (by simp) ?_
              refine AllReadyH.cons rfl (fun K hK => ?_) AllReadyH.nil
              go_simp
              refine hK.out _ _ trivial (fun _ => ?_)
              clear hK K
              refine wpAnyH_done (by kernel_rfl) ?_ _
              have HMM := HM.out
              go_wp2
              go_roundw
              case rel => exact ⟨i + 1, _, (numE si).1, Zi ++ [z], by omega, by go_num, HM.out, HZL2.out, HQ2.out⟩
              case measure => simp [intOf]; omega
        · have hcd : decide ((i : Int) < m ∧ si.e = 0) = false := decide_eq_false hc
          rw [hcd]
          have hfin : Hid (q = (si, Zi)) := Lib.hid (by rw [HQI.out, entsE_end _ _ (by rcases Decidable.not_and_iff_or_not.1 hc with h | h; exact .inl (by omega); exact .inr h)]; simp)
          clear hc hcd
          go_wp2
          go_meet
          exact ⟨vE, by rw [hfin.out]; exact HD.out, by rw [hfin.out]; have := HZL.out; show Zi.length ≤ 256; omega⟩
  case rest =>
    obtain ⟨vE, hd, hq256⟩ := hcut
    have HD3 := Lib.hid hd
    clear hd HD2 HQ hop
    go_wp2_with fail
    refine (ND.out wc HD3.out.rd).mono ?_
    rintro e w3 ⟨rfl, r3, k3⟩
    have HD4 := Lib.hid (HD3.out.keep hRB k3 r3)
    clear k3 r3 HD3 ND
    go_upto_region 9 with fail
    go_cut [6] from 35 to 45 (fun s6 wx => s6 = .int .i64 n ∧ OutD w wx R B s2 (.slice none 0 0) vE [] q.2)
    case first =>
      by_cases g1 : 0 ≤ n
      · have g1d : decide (0 ≤ n) = true := decide_eq_true g1
        by_cases g2 : n ≤ 1200
        · have g2d : decide (n ≤ 1200) = true := decide_eq_true g2
          have NX := Lib.hid (NE.out w3 true (by rw [g1d, g2d]; rfl) HD4.out.rd)
          go_wp2_with fail
          refine NX.out.mono ?_
          rintro e w4 ⟨rfl, r4, k4⟩
          have HD5 := Lib.hid (HD4.out.keep hRB k4 r4)
          clear k4 r4 NX
          go_wp2
          go_meet
          exact ⟨rfl, HD5.out⟩
        · have g2d : decide (n ≤ 1200) = false := decide_eq_false g2
          have NX := Lib.hid (NE.out w3 false (by rw [g1d, g2d]; rfl) HD4.out.rd)
          go_wp2_with fail
          refine NX.out.mono ?_
          rintro e w4 ⟨rfl, r4, k4⟩
          have HD5 := Lib.hid (HD4.out.keep hRB k4 r4)
          clear k4 r4 NX
          go_wp2
          go_meet
          exact ⟨rfl, HD5.out⟩
      · have g1d : decide (0 ≤ n) = false := decide_eq_false g1
        have NX := Lib.hid (NE.out w3 false (by rw [g1d]; rfl) HD4.out.rd)
        go_wp2_with fail
        refine NX.out.mono ?_
        rintro e w4 ⟨rfl, r4, k4⟩
        have HD5 := Lib.hid (HD4.out.keep hRB k4 r4)
        clear k4 r4 NX
        go_wp2
        go_meet
        exact ⟨rfl, HD5.out⟩
    case rest =>
      obtain ⟨rfl, hd⟩ := hcut
      have HD5 := Lib.hid hd
      have oe := hd.oc.oE
      have c1 := hd.oc.c1
      have hC := hd.oc.lt
      obtain ⟨AE, cE, rfl⟩ := own_formk oe
      obtain ⟨zn, hzn⟩ : ∃ zn, zn = q.2.length := ⟨_, rfl⟩
      rw [← hzn] at oe c1
      have hrz : Hid (∀ wq, Keeps (fun p => p = R) wc wq → RdZ wq AE q.2) := Lib.hid (fun wq kq => own_rdZ (ownsRow_keep oe fun k hk => kq.block k (own_ltk oe hk) (fun e => by have := hd.oc.bE k (by rw [← hzn]; exact hk); omega)) hzn)
      have hzl6 : zn ≤ 100000 := by omega
      have HZn := Lib.hid hzn
      clear hd oe hzn HD4 NE hq256
      go_upto_block 2 with fail
      go_cut [8] from 46 to 61 (fun s8 wx => OutD w wx R B s3 (.slice none 0 0) (.slice AE q.2.length cE) [] q.2)
      case first =>
        go_wp2_with fail
        go_loopw [8, 48] (fun s8 s48 wr => ∃ j : Nat, j ≤ zn ∧ s48 = .int .i64 j ∧ OutD w wr R B (entE n (q.2.take j) s2) (.slice none 0 0) (.slice AE q.2.length cE) [] q.2 ∧ Keeps (fun p => p = R) wc wr) (fun _ s48 _ => zn - (intOf s48).toNat)
        case atStart => exact ⟨0, Nat.zero_le _, rfl, HD5.out, Keeps.refl _ _⟩
        case round =>
          obtain ⟨j, hjz, rfl, hd, kr⟩ := hrel
          have HD6 := Lib.hid hd
          have KR := Lib.hid kr
          have c1r := hd.oc.c1
          rw [← HZn.out] at c1r
          clear hd kr
          by_cases hj : j < zn
          · have hjI : (j : Int) < (zn : Int) := by omega
            have hjd : decide ((j : Int) < (zn : Int)) = true := decide_eq_true hjI
            have hj0 : (0 : Int) ≤ (j : Int) := by omega
            have hjq : j < q.2.length := by rw [← HZn.out]; exact hj
            obtain ⟨b, off, hAE, hc⟩ := hrz.out wr KR.out (by omega)
            have hcj := hc j hjq
            obtain ⟨a, ha⟩ : ∃ a, a = q.2.getD j 0 := ⟨_, rfl⟩
            rw [← ha] at hcj
            have HSN : Hid (entE n (q.2.take (j + 1)) s2 = needE (decide (0 ≤ a) && decide (a ≤ n)) (entE n (q.2.take j) s2)) := Lib.hid (by rw [ha]; exact entE_take n q.2 j hjq s2)
            have NF : Hid (∀ wq b, b = (decide (0 ≤ a) && decide (a ≤ n)) → OutD w wq R B (entE n (q.2.take j) s2) (.slice none 0 0) (.slice AE q.2.length cE) [] q.2 → Keeps (fun p => p = R) wc wq →
                Calls Tryd.prog 81 #[.pointer (some ⟨R, 0, none⟩), .bool b] wq fun e w' => e = .returned (.tuple #[]) ∧ OutD w w' R B (entE n (q.2.take (j + 1)) s2) (.slice none 0 0) (.slice AE q.2.length cE) [] q.2 ∧ Keeps (fun p => p = R) wc w') := Lib.hid (fun wq b hb hd kq => by
              subst hb
              refine (need_any R _ _ wq hd.rd).mono fun e w' ⟨h1, h2, h3⟩ => ⟨h1, ?_, kq.trans h3 (fun _ _ h => h)⟩
              rw [HSN.out]
              exact hd.keep hRB h3 h2)
            clear hc ha hjq
            subst hAE
            go_upto_block 3 with fail
            go_cut [8] from 49 to 60 (fun s8 wx => OutD w wx R B (entE n (q.2.take (j + 1)) s2) (.slice none 0 0) (.slice (some ⟨b, off, none⟩) q.2.length cE) [] q.2 ∧ Keeps (fun p => p = R) wc wx)
            case first =>
              by_cases g1 : 0 ≤ a
              · have g1d : decide (0 ≤ a) = true := decide_eq_true g1
                by_cases g2 : a ≤ n
                · have g2d : decide (a ≤ n) = true := decide_eq_true g2
                  have NX := Lib.hid (NF.out wr true (by rw [g1d, g2d]; rfl) HD6.out KR.out)
                  go_wp2_with fail
                  refine NX.out.mono ?_
                  rintro e w4 ⟨rfl, r4, k4⟩
                  have HR4 := Lib.hid r4
                  have HK4 := Lib.hid k4
                  clear k4 r4 NX
                  go_wp2
                  go_meet
                  exact ⟨HR4.out, HK4.out⟩
                · have g2d : decide (a ≤ n) = false := decide_eq_false g2
                  have NX := Lib.hid (NF.out wr false (by rw [g1d, g2d]; rfl) HD6.out KR.out)
                  go_wp2_with fail
                  refine NX.out.mono ?_
                  rintro e w4 ⟨rfl, r4, k4⟩
                  have HR4 := Lib.hid r4
                  have HK4 := Lib.hid k4
                  clear k4 r4 NX
                  go_wp2
                  go_meet
                  exact ⟨HR4.out, HK4.out⟩
              · have g1d : decide (0 ≤ a) = false := decide_eq_false g1
                have NX := Lib.hid (NF.out wr false (by rw [g1d]; rfl) HD6.out KR.out)
                go_wp2_with fail
                refine NX.out.mono ?_
                rintro e w4 ⟨rfl, r4, k4⟩
                have HR4 := Lib.hid r4
                have HK4 := Lib.hid k4
                clear k4 r4 NX
                go_wp2
                go_meet
                exact ⟨HR4.out, HK4.out⟩
            case rest =>
              obtain ⟨hd, kr⟩ := hcut
              have HD7 := Lib.hid hd
              have KR7 := Lib.hid kr
              clear hd kr NF HSN c1r hcj
              go_wp2
              go_roundw
              case rel => exact ⟨j + 1, by omega, by go_num, HD7.out, KR7.out⟩
              case measure => simp [intOf]; omega
          · obtain rfl : j = zn := by omega
            have hjd : decide ((j : Int) < (j : Int)) = false := decide_eq_false (by omega)
            have hfin : Hid (entE n (q.2.take j) s2 = s3) := Lib.hid (by rw [HS3.out, List.take_of_length_le (by rw [← HZn.out]; exact Nat.le_refl _)])
            go_wp2
            go_meet
            rw [← hfin.out]
            exact HD6.out
      case rest =>
        have HD8 := Lib.hid hcut
        clear hcut HD5 hrz c1 hC HZn hzl6
        go_upto_block 4 with fail
        go_cut [9] from 62 to 80 (fun s9 wx => ∃ vI, OutD w wx R B t.1 vI (.slice AE q.2.length cE) t.2 q.2)
        case first =>
          obtain ⟨vE, hvE⟩ : ∃ vE : Value, vE = .slice AE q.2.length cE := ⟨_, rfl⟩
          rw [← hvE] at HD8
          have HVE := Lib.hid hvE
          clear hvE
          go_wp2_with fail
          go_loopw [9] (fun s9 wr => ∃ (i : Nat) (vI : Value) (si : RS) (Li : List Ins), i ≤ 1200 ∧ s9 = .int .i64 i ∧ OutD w wr R B si vI vE Li q.2 ∧ Li.length = i ∧ t = ((inssE (n.toNat - i) si).1, Li ++ (inssE (n.toNat - i) si).2) ∧ (i = 0 → si = s3) ∧ (0 < i → n ≤ 1200)) (fun s9 _ => 1201 - (intOf s9).toNat)
          case atStart => exact ⟨0, _, s3, [], Nat.zero_le _, rfl, HD8.out, rfl, by rw [HT.out]; simp, fun _ => rfl, fun h => absurd h (Nat.lt_irrefl _)⟩
          case round =>
            obtain ⟨i, vI, si, Li, hi12, rfl, hd, hzl, hqi, hsi, hni⟩ := hrel
            have HD := Lib.hid hd
            have HQI := Lib.hid hqi
            have HZL := Lib.hid hzl
            have HSI := Lib.hid hsi
            have HNI := Lib.hid hni
            obtain ⟨A0, c0, rs⟩ := hd.rd
            have e1 := rs.c1
            clear hd hqi hzl rs hsi hni
            go_upto_region 16 with fail
            go_cut [71] from 62 to 80 (fun s25 wx => s25 = .bool (decide ((i : Int) < n ∧ si.e = 0)) ∧ wx = wr)
            case first =>
              by_cases h1 : (i : Int) < n
              · have h1d : decide ((i : Int) < n) = true := decide_eq_true h1
                by_cases h2 : si.e = 0
                · have h2I : (si.e : Int) = 0 := by omega
                  have h2d : decide ((si.e : Int) = 0) = true := decide_eq_true h2I
                  rw [h2I] at e1
                  have hb : Hid (decide ((i : Int) < n ∧ si.e = 0) = true) := Lib.hid (decide_eq_true ⟨h1, h2⟩)
                  go_wp2
                  go_meet
                  exact ⟨by rw [hb.out], rfl⟩
                · have h2I : ¬ (si.e : Int) = 0 := by omega
                  have h2d : decide ((si.e : Int) = 0) = false := decide_eq_false h2I
                  have hb : Hid (decide ((i : Int) < n ∧ si.e = 0) = false) := Lib.hid (decide_eq_false (fun h => h2 h.2))
                  obtain ⟨ev, hev⟩ : ∃ ev, ev = (si.e : Int) := ⟨_, rfl⟩
                  rw [← hev] at e1 h2I h2d
                  have hbq : Hid ((ev == 0) = false) := Lib.hid (by simpa using h2I)
                  clear hev h2
                  go_wp2
                  go_meet
                  exact ⟨by rw [hb.out, hbq.out], rfl⟩
              · have h1d : decide ((i : Int) < n) = false := decide_eq_false h1
                have hb : Hid (decide ((i : Int) < n ∧ si.e = 0) = false) := Lib.hid (decide_eq_false (fun h => h1 h.1))
                go_wp2
                go_meet
                exact ⟨by rw [hb.out], rfl⟩
            case rest =>
              obtain ⟨rfl, hwc⟩ := hcut
              rw [hwc]
              clear hwc
              by_cases hc : (i : Int) < n ∧ si.e = 0
              · have hcd : decide ((i : Int) < n ∧ si.e = 0) = true := decide_eq_true hc
                rw [hcd]
                have hn12 : n ≤ 1200 := by
                  rcases Nat.eq_zero_or_pos i with h0 | h0
                  · have h1 := hc.2
                    rw [HSI.out h0] at h1
                    exact H1200.out h1
                  · exact HNI.out h0
                obtain ⟨x, hx⟩ : ∃ x, x = (insE si).2 := ⟨_, rfl⟩
                have HDd := Lib.hid (HD.out.keep hRB (Keeps.refl (fun p => p = R) wr).drew (HD.out.rd.keep (Keeps.refl (fun _ => False) wr).drew))
                have NA := ins_any w0 W0.out R hR si wr.drew (K0.out.trans HDd.out.kw (fun _ _ e => by omega)) HDd.out.rd
                rw [← hx] at NA
                have hz0 := HD.out.oc
                have c1 := hz0.c0
                have hC := hz0.lt
                have NAH := Lib.hid NA
                have hzl9 : Li.length ≤ 1200 := by have := HZL.out; omega
                have him2 : i + 1 ≤ 1200 := by have := hc.1; omega
                have HQ2 : Hid (t = ((inssE (n.toNat - (i + 1)) (insE si).1).1, (Li ++ [x]) ++ (inssE (n.toNat - (i + 1)) (insE si).1).2)) := Lib.hid (by
                  have h := inssE_snoc (n.toNat - (i + 1)) si hc.2 Li (T := t) (by rw [show n.toNat - (i + 1) + 1 = n.toNat - i by have := hc.1; omega]; exact HQI.out)
                  rw [hx]
                  exact h)
                have HZL2 : Hid ((Li ++ [x]).length = i + 1) := Lib.hid (by rw [List.length_append, HZL.out]; rfl)
                obtain ⟨zl, hzl⟩ : ∃ zl, zl = Li.length := ⟨_, rfl⟩
                rw [← hzl] at hzl9
                have HZn := Lib.hid hzl
                have hC0 := hRB
                have HN12 : Hid (n ≤ 1200) := Lib.hid hn12
                clear hx NA hz0 hzl e1 hcd hc hn12
                go_upto_region 18 with fail
                refine wp_region_held_drew (S := fun _ => True) (by kernel_rfl) trivial (fun _ => ?_)
                refine wpAnyH_take (i := 0) (v := ?_) rfl (by kernel_rfl) (by kernel_rfl) (by kernel_rfl) (fun _ _ _ h => h) (Or.inl ⟨by rfl, ?_⟩) trivial ?_
                rotate_left
                · (intro w' hSw; (try dsimp only at hSw); go_simp; (try (with_reducible rfl)))
                simp only [Act.put, List.getElem_toArray, List.getElem_cons_zero, List.setIfInBounds_toArray, List.set_cons_succ, List.set_cons_zero]
                refine wpAnyH_take (i := 2) (v := ?_) rfl (by kernel_rfl) (by kernel_rfl) (by kernel_rfl) (fun _ _ _ h => h) (Or.inl ⟨by rfl, ?_⟩) trivial ?_
                rotate_left
                · (intro w' hSw; (try dsimp only at hSw); go_simp; (try (with_reducible rfl)))
                simp only [Act.put, List.getElem_toArray, List.getElem_cons_succ, List.getElem_cons_zero, List.setIfInBounds_toArray, List.set_cons_succ, List.set_cons_zero]
                refine wpAnyH_ready (rs := [1, 3]) (by kernel_rfl) (by simp) ?_
                refine AllReadyH.cons rfl (fun K hK => ?_) ?_
                · go_simp
                  refine hK.out _ _ trivial (fun _ => ?_)
                  clear hK K
                  refine wpAnyH_ready (rs := [3]) (by kernel_rfl) (by simp) ?_
                  refine AllReadyH.cons rfl (fun K hK => ?_) AllReadyH.nil
                  go_simp
                  refine NAH.out.mono ?_
                  rintro e w2 ⟨rfl, r2, k2⟩
                  have HDx := Lib.hid (HDd.out.keep hRB k2 r2)
                  have d1 := HDx.out.oc.c0
                  have hC2 := HDx.out.oc.lt
                  clear r2 k2
                  refine hK.out _ _ trivial (fun _ => ?_)
                  clear hK K
                  refine wpAnyH_ready (rs := [4]) (by kernel_rfl) (by simp) ?_
                  refine AllReadyH.cons rfl (fun K hK => ?_) AllReadyH.nil
                  go_simp
                  refine hK.out _ _ trivial (fun _ => ?_)
                  clear hK K
                  refine wpAnyH_ready (rs := [5]) (by kernel_rfl) (by simp) ?_
                  refine AllReadyH.cons rfl (fun K hK => ?_) AllReadyH.nil
                  refine step_append_atk (by rfl) (.tmp 75) (.tmp 78) 38 (by rfl) 0 52 i52 _ 4 40 Tryd.underlying38 hi52 h52z0 h52z1 h52z2 (by rfl) (by omega) vI zl (flatI Li) (by rfl) (by rw [HZn.out]; exact (HDx.out.oc.keep ((Keeps.refl (fun _ => False) w2).alloc _) (fun _ _ h => h)).oI) ⟨w2.heap.size, 0, none⟩ 1 1 x.cells (by rfl) (by rfl) (news4 x 52 rfl) (Ins.one x) (by omega) (by omega) (Nat.zero_le _) ?_
                  intro v5 w5 h5 g5 b5
                  obtain ⟨A5, c5', rfl⟩ := own_formk h5
                  have hmm := HDx.out.moreI hRB HB.out x ((Keeps.refl (fun _ => False) w2).alloc _) (by rw [← HZn.out]; exact h5) g5 b5
                  have HM := Lib.hid hmm.1
                  have m1 := hmm.2.1
                  have m2 := hmm.2.2
                  clear hmm h5 g5 b5
                  refine hK.out _ _ trivial (fun _ => ?_)
                  clear hK K
                  refine wpAnyH_take (i := 6) (v := ?_) rfl (by kernel_rfl) (by kernel_rfl) (by kernel_rfl) (fun _ _ _ h => h) (Or.inl ⟨by rfl, ?_⟩) trivial ?_
                  rotate_left
                  · (intro w' hSw; (try dsimp only at hSw); go_simp; (try (with_reducible rfl)))
                  simp only [Act.put, List.getElem_toArray, List.getElem_cons_succ, List.getElem_cons_zero, List.setIfInBounds_toArray, List.set_cons_succ, List.set_cons_zero]
                  refine wpAnyH_ready (rs := [7]) (by kernel_rfl) (by simp) ?_
                  refine AllReadyH.cons rfl (fun K hK => ?_) AllReadyH.nil
                  go_simp
                  refine hK.out _ _ trivial (fun _ => ?_)
                  clear hK K
                  refine wpAnyH_done (by kernel_rfl) ?_ _
                  have HMM := HM.out
                  go_wp2
                  go_roundw
                  case rel => exact ⟨i + 1, _, (insE si).1, Li ++ [x], him2, by go_num, HM.out, HZL2.out, HQ2.out, fun h => absurd h (by omega), fun _ => HN12.out⟩
                  case measure => simp [intOf]; omega
                refine AllReadyH.cons rfl (fun K hK => ?_) AllReadyH.nil
                · go_simp
                  refine NAH.out.mono ?_
                  rintro e w2 ⟨rfl, r2, k2⟩
                  have HDx := Lib.hid (HDd.out.keep hRB k2 r2)
                  have d1 := HDx.out.oc.c0
                  have hC2 := HDx.out.oc.lt
                  clear r2 k2
                  refine hK.out _ _ trivial (fun _ => ?_)
                  clear hK K
                  refine wpAnyH_ready (rs := [1, 4]) (by kernel_rfl) (by simp) ?_
                  refine AllReadyH.cons rfl (fun K hK => ?_) ?_
                  · go_simp
                    refine hK.out _ _ trivial (fun _ => ?_)
                    clear hK K
                    refine wpAnyH_ready (rs := [4]) (by kernel_rfl) (by simp) ?_
                    refine AllReadyH.cons rfl (fun K hK => ?_) AllReadyH.nil
                    go_simp
                    refine hK.out _ _ trivial (fun _ => ?_)
                    clear hK K
                    refine wpAnyH_ready (rs := [5]) (by kernel_rfl) (by simp) ?_
                    refine AllReadyH.cons rfl (fun K hK => ?_) AllReadyH.nil
                    refine step_append_atk (by rfl) (.tmp 75) (.tmp 78) 38 (by rfl) 0 52 i52 _ 4 40 Tryd.underlying38 hi52 h52z0 h52z1 h52z2 (by rfl) (by omega) vI zl (flatI Li) (by rfl) (by rw [HZn.out]; exact (HDx.out.oc.keep ((Keeps.refl (fun _ => False) w2).alloc _) (fun _ _ h => h)).oI) ⟨w2.heap.size, 0, none⟩ 1 1 x.cells (by rfl) (by rfl) (news4 x 52 rfl) (Ins.one x) (by omega) (by omega) (Nat.zero_le _) ?_
                    intro v5 w5 h5 g5 b5
                    obtain ⟨A5, c5', rfl⟩ := own_formk h5
                    have hmm := HDx.out.moreI hRB HB.out x ((Keeps.refl (fun _ => False) w2).alloc _) (by rw [← HZn.out]; exact h5) g5 b5
                    have HM := Lib.hid hmm.1
                    have m1 := hmm.2.1
                    have m2 := hmm.2.2
                    clear hmm h5 g5 b5
                    refine hK.out _ _ trivial (fun _ => ?_)
                    clear hK K
                    refine wpAnyH_take (i := 6) (v := ?_) rfl (by kernel_rfl) (by kernel_rfl) (by kernel_rfl) (fun _ _ _ h => h) (Or.inl ⟨by rfl, ?_⟩) trivial ?_
                    rotate_left
                    · (intro w' hSw; (try dsimp only at hSw); go_simp; (try (with_reducible rfl)))
                    simp only [Act.put, List.getElem_toArray, List.getElem_cons_succ, List.getElem_cons_zero, List.setIfInBounds_toArray, List.set_cons_succ, List.set_cons_zero]
                    refine wpAnyH_ready (rs := [7]) (by kernel_rfl) (by simp) ?_
                    refine AllReadyH.cons rfl (fun K hK => ?_) AllReadyH.nil
                    go_simp
                    refine hK.out _ _ trivial (fun _ => ?_)
                    clear hK K
                    refine wpAnyH_done (by kernel_rfl) ?_ _
                    have HMM := HM.out
                    go_wp2
                    go_roundw
                    case rel => exact ⟨i + 1, _, (insE si).1, Li ++ [x], him2, by go_num, HM.out, HZL2.out, HQ2.out, fun h => absurd h (by omega), fun _ => HN12.out⟩
                    case measure => simp [intOf]; omega
                  refine AllReadyH.cons rfl (fun K hK => ?_) AllReadyH.nil
                  · go_simp
                    refine hK.out _ _ trivial (fun _ => ?_)
                    clear hK K
                    refine wpAnyH_ready (rs := [1]) (by kernel_rfl) (by simp) ?_
                    refine AllReadyH.cons rfl (fun K hK => ?_) AllReadyH.nil
                    go_simp
                    refine hK.out _ _ trivial (fun _ => ?_)
                    clear hK K
                    refine wpAnyH_ready (rs := [5]) (by kernel_rfl) (by simp) ?_
                    refine AllReadyH.cons rfl (fun K hK => ?_) AllReadyH.nil
                    refine step_append_atk (by rfl) (.tmp 75) (.tmp 78) 38 (by rfl) 0 52 i52 _ 4 40 Tryd.underlying38 hi52 h52z0 h52z1 h52z2 (by rfl) (by omega) vI zl (flatI Li) (by rfl) (by rw [HZn.out]; exact (HDx.out.oc.keep ((Keeps.refl (fun _ => False) w2).alloc _) (fun _ _ h => h)).oI) ⟨w2.heap.size, 0, none⟩ 1 1 x.cells (by rfl) (by rfl) (news4 x 52 rfl) (Ins.one x) (by omega) (by omega) (Nat.zero_le _) ?_
                    intro v5 w5 h5 g5 b5
                    obtain ⟨A5, c5', rfl⟩ := own_formk h5
                    have hmm := HDx.out.moreI hRB HB.out x ((Keeps.refl (fun _ => False) w2).alloc _) (by rw [← HZn.out]; exact h5) g5 b5
                    have HM := Lib.hid hmm.1
                    have m1 := hmm.2.1
                    have m2 := hmm.2.2
                    clear hmm h5 g5 b5
                    refine hK.out _ _ trivial (fun _ => ?_)
                    clear hK K
                    refine wpAnyH_take (i := 6) (v := ?_) rfl (by kernel_rfl) (by kernel_rfl) (by kernel_rfl) (fun _ _ _ h => h) (Or.inl ⟨by rfl, ?_⟩) trivial ?_
                    rotate_left
                    · (intro w' hSw; (try dsimp only at hSw); go_simp; (try (with_reducible rfl)))
                    simp only [Act.put, List.getElem_toArray, List.getElem_cons_succ, List.getElem_cons_zero, List.setIfInBounds_toArray, List.set_cons_succ, List.set_cons_zero]
                    refine wpAnyH_ready (rs := [7]) (by kernel_rfl) (by simp) ?_
                    refine AllReadyH.cons rfl (fun K hK => ?_) AllReadyH.nil
                    go_simp
                    refine hK.out _ _ trivial (fun _ => ?_)
                    clear hK K
                    refine wpAnyH_done (by kernel_rfl) ?_ _
                    have HMM := HM.out
                    go_wp2
                    go_roundw
                    case rel => exact ⟨i + 1, _, (insE si).1, Li ++ [x], him2, by go_num, HM.out, HZL2.out, HQ2.out, fun h => absurd h (by omega), fun _ => HN12.out⟩
                    case measure => simp [intOf]; omega
              · have hcd : decide ((i : Int) < n ∧ si.e = 0) = false := decide_eq_false hc
                rw [hcd]
                have hfin : Hid (t = (si, Li)) := Lib.hid (by rw [HQI.out, inssE_end _ _ (by rcases Decidable.not_and_iff_or_not.1 hc with h | h; exact .inl (by omega); exact .inr h)]; simp)
                clear hc hcd
                go_wp2
                go_meet
                exact ⟨vI, by have h := HD.out; rw [HVE.out] at h; rw [hfin.out]; exact h⟩
        case rest =>
          obtain ⟨vI, hd⟩ := hcut
          obtain ⟨AI, cI, hvI⟩ := own_formk hd.oc.oI
          obtain ⟨ln, hln⟩ : ∃ ln, ln = t.2.length := ⟨_, rfl⟩
          obtain ⟨zm, hzm⟩ : ∃ zm, zm = q.2.length := ⟨_, rfl⟩
          have hE : (Value.slice AE q.2.length cE) = .slice AE zm cE := by rw [hzm]
          rw [← hln] at hvI
          rw [hvI, hE] at hd
          have HD9 := Lib.hid hd
          have c0 := hd.oc.c0
          have c1 := hd.oc.c1
          have a0 := hd.tw.c0
          have a1 := hd.tw.c1
          have f0 := hd.tw.f0
          have f1 := hd.tw.f1
          have hB1 := hd.tw.lt
          have hB2 := hd.oc.lt
          have HVI : Hid ((Value.slice AI ln cI) = .slice AI ln cI ∧ ln = t.2.length ∧ zm = q.2.length) := Lib.hid ⟨rfl, hln, hzm⟩
          clear hd HD8 hvI hln hzm hE
          have hfin : ((wc.setCell ⟨B, 0, none⟩ (.slice AI ln cI)).setCell ⟨B, 1, none⟩ (.slice AE zm cE)).ownsRow 0 52 4 (.slice AI ln cI) t.2.length (flatI t.2) ∧ ((wc.setCell ⟨B, 0, none⟩ (.slice AI ln cI)).setCell ⟨B, 1, none⟩ (.slice AE zm cE)).ownsRow 0 3 1 (.slice AE zm cE) q.2.length (valZ q.2) ∧ (∀ g, (Value.slice AI ln cI).ownBlock = some g → B ≤ g) ∧ (∀ g, (Value.slice AE zm cE).ownBlock = some g → B ≤ g) ∧ Rdr ((wc.setCell ⟨B, 0, none⟩ (.slice AI ln cI)).setCell ⟨B, 1, none⟩ (.slice AE zm cE)) R t.1 ∧ Keeps (fun p => p = R) w ((wc.setCell ⟨B, 0, none⟩ (.slice AI ln cI)).setCell ⟨B, 1, none⟩ (.slice AE zm cE)) := by
            have hd := HD9.out
            refine ⟨?_, ?_, fun g hg => by have := hd.oc.bI g hg; omega, fun g hg => by have := hd.oc.bE g hg; omega, (hd.rd.set hRB _).set hRB _, (hd.kw.setCell (p := ⟨B, 0, none⟩) (fun h => by have h : B < w.heap.size := h; have := HB.out; omega) _).setCell (p := ⟨B, 1, none⟩) (fun h => by have h : B < w.heap.size := h; have := HB.out; omega) _⟩
            · refine ownsRow_keep (ownsRow_keep hd.oc.oI (fun k hk => Below.heap_setCell wc _ _ k (fun e => ?_))) (fun k hk => Below.heap_setCell _ _ _ k (fun e => ?_))
              · have e : k = B := e
                have := hd.oc.bI k hk
                omega
              · have e : k = B := e
                have := hd.oc.bI k hk
                omega
            · refine ownsRow_keep (ownsRow_keep hd.oc.oE (fun k hk => Below.heap_setCell wc _ _ k (fun e => ?_))) (fun k hk => Below.heap_setCell _ _ _ k (fun e => ?_))
              · have e : k = B := e
                have := hd.oc.bE k hk
                omega
              · have e : k = B := e
                have := hd.oc.bE k hk
                omega
          have HFIN := Lib.hid hfin
          clear hfin
          go_wp2
          (try simp only [Exit.inBlock, Exit.then])
          refine bodyPost_ret (v := .agg #[.slice AI ln cI, .slice AE zm cE]) ?_ rfl ?_
          · rw [results_cell1 rfl]
            go_simp
          · rw [HC.out]
            exact ⟨⟨_, _, by rfl, HFIN.out.1, HFIN.out.2.1, HFIN.out.2.2.1, HFIN.out.2.2.2.1⟩, HFIN.out.2.2.2.2.1, HFIN.out.2.2.2.2.2⟩

end Go.Proofs.YtoombjbpblighaaDoor
