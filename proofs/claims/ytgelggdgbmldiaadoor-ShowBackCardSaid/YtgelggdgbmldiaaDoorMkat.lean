/-
  Layer 3: the program's statements, over a builder. Written by an AI agent.
  Layer 3: the program's statements, over a builder. Written by an AI agent.
  Layer 3: the program's statements, over a builder. Written by an AI agent.
-/
import Derived.Test.YtgelggdgbmldiaaDoorMkas
namespace Go.Proofs.YtgelggdgbmldiaaDoor
open Go Go.RowKit Go.Shelf
set_option linter.unusedVariables false
set_option linter.unusedSimpArgs false
theorem BW.lt {B b : Nat} {t : List UInt8} {w : World} (h : BW B b t w) : b < w.heap.size := by
  rcases h.2 with h | h
  · exact h.lt
  · exact h.lt
theorem BW.keep {B b : Nat} {t : List UInt8} {w w' : World} (h : BW B b t w) (k : Keeps (fun _ => False) w w') : BW B b t w' := by
  have hb := h.lt
  have hg : w.grownBy w' none := ⟨k.os, k.tape, k.output, k.size, fun q hq _ => k.block q hq (fun h => h)⟩
  refine ⟨Nat.le_trans h.1 k.size, ?_⟩
  have key : ∀ p, Lib.BuilderAtF 73 5 B b p (Lib.byteCells t) w → Lib.BuilderAtF 73 5 B b p (Lib.byteCells t) w' := by
    rintro p ⟨h1, v, h2, h3, h4⟩
    refine ⟨h1, v, by rw [k.block b hb (fun h => h)]; exact h2, h3.kept hg ?_, h4⟩
    cases v.ownBlock with
    | none => exact .inl rfl
    | some q => exact .inr (by simp)
  exact h.2.imp (key _) (key _)
theorem FrB.back {w0 w : World} (h : Below w0.heap.size w0 w) : Keeps (fun _ => False) w0 w := Keeps.ofBelow h
theorem below_trans {B : Nat} {w w1 w2 : World} (h : Below B w w1) (k : Below B w1 w2) : Below B w w2 :=
  ⟨k.os.trans h.os, k.tape.trans h.tape, k.output.trans h.output, Nat.le_trans h.size k.size, fun q hq => (k.block q hq).trans (h.block q hq)⟩
/-- What the program's statement and block do to a builder, made behind a world w0. -/
def PSC (Q : List UInt8 → Prop) (nd : List Nd) (A A' : Option Addr) (m k c c' : Nat) (w0 : World) (b : Nat) (e : Stm) : Prop :=
  ∀ (i : Int) (t : List UInt8) (w : World) (kk nn ln : Int) (nm : List UInt8) (l : List Int) (a : Option Addr) (ll cc : Nat), BW w0.heap.size b t w → Below w0.heap.size w0 w → At nd i kk nn nm l → RepS Q nd e i → RdI w0 a l → ll = l.length → t.length + (showS e).length ≤ 10000000 →
    Calls Tryd.prog 68 #[.pointer (some ⟨b, 0, none⟩), .agg #[.slice A m c, .slice A' k c'], .agg #[.int .i64 kk, .int .i64 ln, .int .i64 nn, .string (ofL nm), .slice a ll cc]] w fun r w' => r = .returned (.tuple #[]) ∧ BW w0.heap.size b (t ++ showS e) w' ∧ FrB w0.heap.size b w w'
def PBC (Q : List UInt8 → Prop) (nd : List Nd) (A A' : Option Addr) (m k c c' : Nat) (w0 : World) (b : Nat) (e : Bl) : Prop :=
  ∀ (i : Int) (t : List UInt8) (w : World), BW w0.heap.size b t w → Below w0.heap.size w0 w → (∃ ys, At nd i 18 0 [] ys ∧ RepB Q nd e ys) → t.length + (showK e).length ≤ 10000000 →
    Calls Tryd.prog 38 #[.pointer (some ⟨b, 0, none⟩), .agg #[.slice A m c, .slice A' k c'], .int .i64 i] w fun r w' => r = .returned (.tuple #[]) ∧ BW w0.heap.size b (t ++ showK e) w' ∧ FrB w0.heap.size b w w'
set_option maxRecDepth 100000 in
set_option maxHeartbeats 16000000 in
theorem pst_simple (Q : List UInt8 → Prop) (nd : List Nd) (fs : List Fnc) (A A' : Option Addr) (m k c c' : Nat) (hm : m = nd.length) (w0 : World) (hw0 : ShW w0) (hT0 : TreeR 0 w0 A A' nd fs) (b : Nat) (e : Stm) (hE : showS e = shortS e ++ [59, 10]) (hk : ∀ i kk nn nm l, At nd i kk nn nm l → RepS Q nd e i → ¬ kk = 15 ∧ ¬ kk = 16) (hc : PHC Q nd fs A A' m k c c' e) : PSC Q nd A A' m k c c' w0 b e := by
  intro i t w kk nn ln nm l a ll cc hB hD hat hR hro hll hlen
  obtain ⟨h15, h16⟩ := hk i kk nn nm l hat hR
  have e15 : (kk == 15) = false := by simpa using h15
  have e16 : (kk == 16) = false := by simpa using h16
  have SC : Hid (∀ w', Below w0.heap.size w0 w' → Calls Tryd.prog 102 #[.agg #[.slice A m c, .slice A' k c'], .agg #[.int .i64 kk, .int .i64 ln, .int .i64 nn, .string (ofL nm), .slice a ll cc]] w' fun r w'' => r = .returned (.string (ofL (shortS e))) ∧ Keeps (fun _ => False) w' w'') := Lib.hid fun w' d => hc i w' kk nn ln nm l a ll cc (hw0.keep (FrB.back d)) (hT0.keep (FrB.back d)) hat hR (hro.keep (FrB.back d) (fun _ _ _ _ h => h)) hll
  have HB := Lib.hid hB
  have HD := Lib.hid hD
  rw [hE] at hlen ⊢
  have HLEN := Lib.hid hlen
  generalize shortS e = se at SC HLEN ⊢
  clear hB hD hat hR hro hll hlen hc hk hE hw0 hT0 hm h15 h16
  go_enter Tryd.func68, Tryd.ntmps68
  go_upto_region 1 with fail
  obtain ⟨P1, hP1⟩ : ∃ X, X = w.heap.size := ⟨_, rfl⟩
  obtain ⟨w1, hw1⟩ : ∃ w1, w1 = w.alloc (.cells #[.slice A m c, .slice A' k c'] 27) := ⟨_, rfl⟩
  have ka := Keeps.one w (.cells #[.slice A m c, .slice A' k c'] 27)
  have hx1 : LocH w1 P1 [.slice A m c, .slice A' k c'] 27 := by rw [hw1, hP1]; exact LocH.new w [.slice A m c, .slice A' k c'] 27
  have hs1 : w1.heap.size = P1 + 1 := by rw [hw1, hP1, World.size_alloc]
  have hbl := HB.out.lt
  have hne1 : P1 ≠ b := by omega
  rw [← hP1]
  rw [← hw1] at ka ⊢
  obtain ⟨P2, hP2⟩ : ∃ X, X = w1.heap.size := ⟨_, rfl⟩
  have hne2 : P2 ≠ b := by omega
  obtain ⟨w2, hw2⟩ : ∃ w2, w2 = w1.alloc (.cells #[.int .i64 kk, .int .i64 ln, .int .i64 nn, .string (ofL nm), .slice a ll cc] 33) := ⟨_, rfl⟩
  have kb := Keeps.one w1 (.cells #[.int .i64 kk, .int .i64 ln, .int .i64 nn, .string (ofL nm), .slice a ll cc] 33)
  have hy2 : LocH w2 P2 [.int .i64 kk, .int .i64 ln, .int .i64 nn, .string (ofL nm), .slice a ll cc] 33 := by rw [hw2, hP2]; exact LocH.new w1 [.int .i64 kk, .int .i64 ln, .int .i64 nn, .string (ofL nm), .slice a ll cc] 33
  rw [← hw2] at kb ⊢
  (try rw [← hs1])
  (try rw [← hP2])
  have hB1 : w0.heap.size ≤ w1.heap.size := by have := HB.out.1; omega
  have HX2 := Lib.hid (hx1.keep (FrB.ofKeeps (b := b) kb hB1) hne1 (by decide))
  have HY2 := Lib.hid hy2
  have K2 := Lib.hid (ka.trans kb (fun _ _ h => h))
  have F2 : Hid (FrB w0.heap.size b w w2) := Lib.hid (FrB.ofKeeps K2.out HB.out.1)
  have HB2 := Lib.hid (HB.out.keep K2.out)
  have D2 := Lib.hid (below_trans HD.out F2.out.below)
  have HNE1 := Lib.hid hne1
  have HNE2 := Lib.hid hne2
  clear ka kb hw1 hw2 hP1 hP2 hs1 hx1 hy2 hbl hne1 hne2 hB1 HB HD
  have x0 := HX2.out.cell 0 _ rfl
  have x1 := HX2.out.cell 1 _ rfl
  have y0 := HY2.out.cell 0 _ rfl
  have y1 := HY2.out.cell 1 _ rfl
  have y2 := HY2.out.cell 2 _ rfl
  have y3 := HY2.out.cell 3 _ rfl
  have y4 := HY2.out.cell 4 _ rfl
  have SD := Lib.hid (SC.out w2 D2.out)
  obtain ⟨S1, hS1⟩ : ∃ S, S = ofL se := ⟨_, rfl⟩
  have HS1 := Lib.hid hS1
  rw [← hS1] at SD
  have q1 : ¬ 9223372036854775807 < S1.size + 2 := by
    have := HLEN.out
    rw [List.length_append] at this
    rw [hS1, ofL_size]
    omega
  clear hS1 SC
  go_wp2_with fail
  refine SD.out.mono ?_
  rintro r w3 ⟨rfl, k3⟩
  have F3 := Lib.hid (F2.out.trans (FrB.ofKeeps k3 HB2.out.1))
  have HB3 := Lib.hid (HB2.out.keep k3)
  have WC := Lib.hid (ws_any w0.heap.size b t (S1 ++ { data := #[59, 10] }) w3 HB3.out (by
    have := HLEN.out
    rw [List.length_append] at this
    have e2 : ([59, 10] : List UInt8).length = 2 := rfl
    rw [ByteArray.size_append, HS1.out, ofL_size]
    show t.length + (se.length + 2) ≤ _
    omega))
  clear k3 SD x0 x1 y0 y1 y2 y3 y4 F2 HB2 HX2 HY2 K2 D2
  go_wp2_with fail
  refine WC.out.mono ?_
  rintro r w4 ⟨rfl, hb4, f4⟩
  have F4 := Lib.hid (F3.out.trans f4)
  have HB4 : Hid (BW w0.heap.size b (t ++ (se ++ [59, 10])) w4) := Lib.hid (by
    have e1 : (S1 ++ { data := #[59, 10] } : ByteArray).data.toList = se ++ [59, 10] := by rw [bap_list, HS1.out, ofL_list]
    rw [e1] at hb4
    exact hb4)
  clear hb4 f4 WC F3 HB3 q1
  go_wp2_with fail
  (try simp only [Exit.inBlock, Exit.then])
  exact bodyPost_end (v := .tuple #[]) (by simp [results, Tryd.results68, go_sem]) rfl ⟨rfl, HB4.out, F4.out⟩
theorem FrB.drew {B b : Nat} {w w' : World} (h : FrB B b w w') : FrB B b w w'.drew := ⟨⟨h.below.os, h.below.tape, h.below.output, h.below.size, h.below.block⟩, h.others⟩
theorem BW.drew {B b : Nat} {t : List UInt8} {w : World} (h : BW B b t w) : BW B b t w.drew := h
end Go.Proofs.YtgelggdgbmldiaaDoor

namespace Go.Proofs.YtgelggdgbmldiaaDoor
open Go Go.RowKit Go.Shelf
set_option linter.unusedVariables false
set_option linter.unusedSimpArgs false
theorem RepS.at {Q : List UInt8 → Prop} {nd : List Nd} : ∀ {s : Stm} {i : Int}, RepS Q nd s i → ∃ k n nm l, At nd i k n nm l
  | .lt s r, i, h => by unfold RepS at h; obtain ⟨x, h1, _⟩ := h; exact ⟨_, _, _, _, h1⟩
  | .set s r, i, h => by unfold RepS at h; obtain ⟨x, h1, _⟩ := h; exact ⟨_, _, _, _, h1⟩
  | .put s a b, i, h => by unfold RepS at h; obtain ⟨x, y, h1, _⟩ := h; exact ⟨_, _, _, _, h1⟩
  | .doo s l, i, h => by unfold RepS at h; obtain ⟨x, h1, _⟩ := h; exact ⟨_, _, _, _, h1⟩
  | .print a, i, h => by unfold RepS at h; obtain ⟨x, h1, _⟩ := h; exact ⟨_, _, _, _, h1⟩
  | .ret0, i, h => by unfold RepS at h; exact ⟨_, _, _, _, h⟩
  | .ret1 a, i, h => by unfold RepS at h; obtain ⟨x, h1, _⟩ := h; exact ⟨_, _, _, _, h1⟩
  | .ifs c a, i, h => by unfold RepS at h; obtain ⟨x, y, ys, h1, _⟩ := h; exact ⟨_, _, _, _, h1⟩
  | .ifelse c a b, i, h => by unfold RepS at h; obtain ⟨x, y, ys, z, zs, h1, _⟩ := h; exact ⟨_, _, _, _, h1⟩
  | .whil c a, i, h => by unfold RepS at h; obtain ⟨x, y, ys, h1, _⟩ := h; exact ⟨_, _, _, _, h1⟩
set_option maxRecDepth 100000 in
set_option maxHeartbeats 16000000 in
theorem pblock_any (Q : List UInt8 → Prop) (nd : List Nd) (fs : List Fnc) (A A' : Option Addr) (m k c c' : Nat) (hm : m = nd.length) (w0 : World) (hw0 : ShW w0) (hT0 : TreeR 0 w0 A A' nd fs) (b : Nat) (bb : Bl) (hcs : ∀ s ∈ blL bb, PSC Q nd A A' m k c c' w0 b s) : PBC Q nd A A' m k c c' w0 b bb := by
  intro i t w hB hD hR hlen
  obtain ⟨ys, ha, hb⟩ := hR
  obtain ⟨j, bt, off, ln, a, cc, rfl, hj, rfl, hn⟩ := hT0.node ha
  rw [← hm] at hj
  have hjI : (j : Int) < (m : Int) := by omega
  have hj0 : (0 : Int) ≤ (j : Int) := by omega
  obtain ⟨hxl, hxx⟩ := repB_at bb ys hb
  have hfl := showB_flat bb
  obtain ⟨l, hl⟩ : ∃ l, l = blL bb := ⟨_, rfl⟩
  rw [← hl] at hxl hxx hfl hcs
  obtain ⟨n, hn2⟩ : ∃ n, n = ys.length := ⟨_, rfl⟩
  have hK : showK bb = [123, 10] ++ l.flatMap showS ++ [125, 10] := by unfold showK; rw [hfl]
  rw [hK] at hlen ⊢
  have hlen2 : t.length + (2 + (l.flatMap showS).length + 2) ≤ 10000000 := by
    rw [List.length_append, List.length_append] at hlen
    have e1 : ([123, 10] : List UInt8).length = 2 := rfl
    have e2 : ([125, 10] : List UInt8).length = 2 := rfl
    omega
  have hn6 : n ≤ 10000000 := by
    rw [hn2, hxl]
    have : ∀ l : List Stm, l.length ≤ (l.flatMap showS).length := by
      intro l
      induction l with
      | nil => exact Nat.zero_le _
      | cons s l ih =>
        show l.length + 1 ≤ (showS s ++ l.flatMap showS).length
        have hs : 1 ≤ (showS s).length := by
          cases s <;> (unfold showS; simp <;> omega)
        rw [List.length_append]
        omega
    have := this l
    omega
  have HLEN := Lib.hid hlen2
  have HB := Lib.hid hB
  have HD := Lib.hid hD
  have HW0 := Lib.hid hw0
  have HT0 := Lib.hid hT0
  have HCS := Lib.hid hcs
  have HXX := Lib.hid hxx
  have HNL : Hid (n = l.length) := Lib.hid (by rw [hn2, hxl])
  have HNX := Lib.hid hn2
  have HN0 := Lib.hid hn
  have HM := Lib.hid hm
  clear hB hD ha hb hxl hxx hfl hl hn2 hK hlen hlen2 hw0 hT0 hcs hn hj hm
  go_enter Tryd.func38, Tryd.ntmps38
  go_upto_region 1 with fail
  obtain ⟨P1, hP1⟩ : ∃ X, X = w.heap.size := ⟨_, rfl⟩
  obtain ⟨w1, hw1⟩ : ∃ w1, w1 = w.alloc (.cells #[.slice (some ⟨bt, off, none⟩) m c, .slice A' k c'] 27) := ⟨_, rfl⟩
  have ka := Keeps.one w (.cells #[.slice (some ⟨bt, off, none⟩) m c, .slice A' k c'] 27)
  have hx1 : LocH w1 P1 [.slice (some ⟨bt, off, none⟩) m c, .slice A' k c'] 27 := by rw [hw1, hP1]; exact LocH.new w [.slice (some ⟨bt, off, none⟩) m c, .slice A' k c'] 27
  have hbl := HB.out.lt
  have hne1 : P1 ≠ b := by omega
  rw [← hP1]
  rw [← hw1] at ka ⊢
  have HX1 := Lib.hid hx1
  have F1 : Hid (FrB w0.heap.size b w w1) := Lib.hid (FrB.ofKeeps ka HB.out.1)
  have HB1 := Lib.hid (HB.out.keep ka)
  have HNE1 := Lib.hid hne1
  have WC := Lib.hid (ws_any w0.heap.size b t { data := #[123, 10] } w1 HB1.out (by have := HLEN.out; show t.length + 2 ≤ _; omega))
  clear ka hw1 hP1 hx1 hbl hne1 HB HB1
  go_wp2_with fail
  refine WC.out.mono ?_
  rintro r w2 ⟨rfl, hb2, f2⟩
  have hb2 : BW w0.heap.size b (t ++ [123, 10]) w2 := hb2
  have HB2 := Lib.hid hb2
  have F2 := Lib.hid (F1.out.trans f2)
  have D2 := Lib.hid (below_trans HD.out F2.out.below)
  have HX2 := Lib.hid (HX1.out.keep f2 HNE1.out (by decide))
  have kk2 := FrB.back D2.out
  have x0 := HX2.out.cell 0 _ rfl
  have x1 := HX2.out.cell 1 _ rfl
  have hnk := HN0.out.keep kk2
  have c0 := hnk.c0
  have c4 := hnk.c4
  rw [← HNX.out] at c4
  clear hb2 f2 WC F1 HX1 HD kk2 hnk
  go_upto_region 3 with fail
  clear x0 x1 c0 c4
  go_loopg [7, 17] (n + 1) (fun q s7 s17 wr => ∃ i : Nat, s17 = .int .i64 i ∧ i + q = n + 1 ∧ i ≤ n ∧ BW w0.heap.size b (t ++ ([123, 10] ++ (l.take i).flatMap showS)) wr ∧ FrB w0.heap.size b w2 wr)
  case atStart => exact ⟨0, rfl, by omega, by omega, HB2.out, FrB.refl _ _ _⟩
  case round =>
    obtain ⟨i, rfl, hiq, hin1, hb, hf⟩ := hrel
    have HIQ := Lib.hid hiq
    have HBr := Lib.hid hb
    have Fr := Lib.hid hf
    have Dr := Lib.hid (below_trans D2.out hf.below)
    clear hiq hb hf
    by_cases hin : i < n
    · have hI : (i : Int) < (n : Int) := by omega
      have hdI : decide ((i : Int) < (n : Int)) = true := decide_eq_true hI
      have hi00 : (0 : Int) ≤ (i : Int) := by omega
      have wi : IntKind.i64.wrap ((i : Int) + 1) = (i : Int) + 1 := IntWalk.i64_in _ (by omega)
      have HIN := Lib.hid hin
      have hil : i < l.length := by rw [← HNL.out]; exact hin
      obtain ⟨x, hx1, hx2⟩ := HXX.out i hil
      obtain ⟨b0, o0, rfl, kw⟩ := HN0.out.ro.get (k := i) (by rw [← HNX.out]; exact hin) hx1
      have hnx := flat_take hil
      have hle := flat_le l (i + 1)
      obtain ⟨e, he⟩ : ∃ e, e = l[i] := ⟨_, rfl⟩
      rw [← he] at hx2 hnx
      have hem : e ∈ l := by rw [he]; exact List.getElem_mem _
      obtain ⟨kk, nn, nm, l2, hat⟩ := hx2.at
      obtain ⟨jj, bt2, off2, ln2, a2, cc2, rfl, hjj, hbt, hnn⟩ := HT0.out.node hat
      cases hbt
      rw [← HM.out] at hjj
      have hjjI : (jj : Int) < (m : Int) := by omega
      have hjj0 : (0 : Int) ≤ (jj : Int) := by omega
      obtain ⟨ll, hll⟩ : ∃ n, n = l2.length := ⟨_, rfl⟩
      rw [hnx, List.length_append] at hle
      have SC : Hid (∀ w', FrB w0.heap.size b wr w' → BW w0.heap.size b (t ++ ([123, 10] ++ (l.take i).flatMap showS)) w' → Calls Tryd.prog 68 #[.pointer (some ⟨b, 0, none⟩), .agg #[.slice (some ⟨bt, off, none⟩) m c, .slice A' k c'], .agg #[.int .i64 kk, .int .i64 ln2, .int .i64 nn, .string (ofL nm), .slice a2 ll cc2]] w' fun r w'' => r = .returned (.tuple #[]) ∧ BW w0.heap.size b (t ++ ([123, 10] ++ (l.take (i + 1)).flatMap showS)) w'' ∧ FrB w0.heap.size b wr w'') := Lib.hid (fun w' q hb => by
        refine (HCS.out e hem jj _ w' kk nn ln2 nm l2 a2 ll cc2 hb (below_trans Dr.out q.below) hat hx2 hnn.ro hll (by have := HLEN.out; simp only [List.length_append, List.length_cons, List.length_nil]; omega)).mono fun r w'' ⟨h1, h2, h3⟩ => ⟨h1, ?_, q.trans h3⟩
        rw [hnx, ← List.append_assoc [123, 10], ← List.append_assoc t]
        exact h2)
      have HNN := Lib.hid hnn
      have HLL := Lib.hid hll
      have kr := FrB.back Dr.out
      have kc := (kr.cell (cell_ltk kw) (fun h => h)).trans kw
      have SK : Hid (∀ w', FrB w0.heap.size b wr w' → (w'.cell? ⟨P1, 0, none⟩ = some (.slice (some ⟨bt, off, none⟩) m c) ∧ w'.cell? ⟨P1, 1, none⟩ = some (.slice A' k c') ∧ w'.cell? ⟨bt, (off + jj * 5), none⟩ = some (.int .i64 kk) ∧ w'.cell? ⟨bt, (off + jj * 5 + 1), none⟩ = some (.int .i64 ln2) ∧ w'.cell? ⟨bt, (off + jj * 5 + 2), none⟩ = some (.int .i64 nn) ∧ w'.cell? ⟨bt, (off + jj * 5 + 3), none⟩ = some (.string (ofL nm)) ∧ w'.cell? ⟨bt, (off + jj * 5 + 4), none⟩ = some (.slice a2 ll cc2)) ∧ FrB w0.heap.size b wr w') := Lib.hid (fun w' q => by
        have hx := (HX2.out.keep Fr.out HNE1.out (by decide)).keep q HNE1.out (by decide)
        have hnk := HNN.out.keep (FrB.back (below_trans Dr.out q.below))
        have n4 := hnk.c4
        rw [← HLL.out] at n4
        exact ⟨⟨hx.cell 0 _ rfl, hx.cell 1 _ rfl, hnk.c0, hnk.c1, hnk.c2, hnk.c3, n4⟩, q⟩)
      have hbr := HBr.out
      have fr0 : FrB w0.heap.size b wr wr := FrB.refl _ _ _
      clear hnx hle hx1 hx2 he hem hil hin hat hll hnn kw kr hjj
      go_upto_region 5 with fail
      clear kc
      go_region_held3 (fun w' => (w'.cell? ⟨P1, 0, none⟩ = some (.slice (some ⟨bt, off, none⟩) m c) ∧ w'.cell? ⟨P1, 1, none⟩ = some (.slice A' k c') ∧ w'.cell? ⟨bt, (off + jj * 5), none⟩ = some (.int .i64 kk) ∧ w'.cell? ⟨bt, (off + jj * 5 + 1), none⟩ = some (.int .i64 ln2) ∧ w'.cell? ⟨bt, (off + jj * 5 + 2), none⟩ = some (.int .i64 nn) ∧ w'.cell? ⟨bt, (off + jj * 5 + 3), none⟩ = some (.string (ofL nm)) ∧ w'.cell? ⟨bt, (off + jj * 5 + 4), none⟩ = some (.slice a2 ll cc2)) ∧ FrB w0.heap.size b wr w') (first | exact SK.out _ (by assumption) | exact SK.out _ (FrB.drew (by assumption))) (first | (go_at_call 68; refine (SC.out _ (by first | assumption | exact FrB.drew (by assumption)) (by first | assumption | exact BW.drew (by assumption))).mono ?_; rintro r w4 ⟨rfl, hb4, f4⟩))
      go_wp2_with fail
      go_roundg (gk - 1)
      case measure => go_light; have h1 := HIQ.out; have h2 := HIN.out; omega
      case rel => exact ⟨i + 1, by go_num, by have h1 := HIQ.out; have h2 := HIN.out; go_light; omega, by have h2 := HIN.out; go_light; omega, hb4, Fr.out.trans f4⟩
    · obtain rfl : n = i := by omega
      have hI : ¬ (n : Int) < (n : Int) := by omega
      have hdI : decide ((n : Int) < (n : Int)) = false := decide_eq_false hI
      have htk : l.take n = l := by rw [HNL.out]; exact List.take_length
      have WE := Lib.hid (ws_any w0.heap.size b _ { data := #[125, 10] } wr HBr.out (by rw [htk]; have := HLEN.out; simp only [List.length_append, List.length_cons, List.length_nil]; show _ + 2 ≤ _; omega))
      have HTK := Lib.hid htk
      clear hin hin1 htk
      go_wp2_with fail
      refine WE.out.mono ?_
      rintro r w4 ⟨rfl, hb4, f4⟩
      have HB4 : Hid (BW w0.heap.size b (t ++ ([123, 10] ++ l.flatMap showS ++ [125, 10])) w4) := Lib.hid (by
        rw [HTK.out, List.append_assoc t] at hb4
        exact hb4)
      have F4 := Lib.hid ((F2.out.trans Fr.out).trans f4)
      clear hb4 f4 WE
      go_wp2_with fail
      (try simp only [Exit.inBlock, Exit.then])
      exact bodyPost_end (v := .tuple #[]) (by simp [results, Tryd.results38, go_sem]) rfl ⟨rfl, HB4.out, F4.out⟩
end Go.Proofs.YtgelggdgbmldiaaDoor

namespace Go.Proofs.YtgelggdgbmldiaaDoor
open Go Go.RowKit Go.Shelf
set_option linter.unusedVariables false
set_option linter.unusedSimpArgs false
set_option maxRecDepth 100000 in
set_option maxHeartbeats 16000000 in
theorem pst_whil (Q : List UInt8 → Prop) (nd : List Nd) (fs : List Fnc) (A A' : Option Addr) (m k c c' : Nat) (hm : m = nd.length) (w0 : World) (hw0 : ShW w0) (hT0 : TreeR 0 w0 A A' nd fs) (b : Nat) (e : Ex) (bb : Bl) (hc0 : PXC Q nd fs A A' m k c c' e) (hc1 : PBC Q nd A A' m k c c' w0 b bb) : PSC Q nd A A' m k c c' w0 b (.whil e bb) := by
  intro i t w kk nn ln nm l a ll cc hB hD hat hR hro hll hlen
  unfold RepS at hR
  obtain ⟨xa, xb, ys, ha, hx0, hb1, hb2⟩ := hR
  obtain ⟨rfl, rfl, rfl, rfl⟩ := ha.inj hat
  replace hll : ll = 2 := hll
  subst hll
  have hx1 : ∃ ys, At nd xb 18 0 [] ys ∧ RepB Q nd bb ys := ⟨ys, hb1, hb2⟩
  clear hb1 hb2
  have HV0 := Lib.hid hx0
  clear hx0
  have HV1 := Lib.hid hx1
  clear hx1
  have HB := Lib.hid hB
  have HD := Lib.hid hD
  have HW0 := Lib.hid hw0
  have HT0 := Lib.hid hT0
  have HC0 := Lib.hid hc0
  clear hc0
  have HC1 := Lib.hid hc1
  clear hc1
  obtain ⟨b0, o0, rfl, kw0⟩ := hro.get (k := 0) (by simp) (x := xa) rfl
  obtain ⟨b1, o1, ea1, kw1⟩ := hro.get (k := 1) (by simp) (x := xb) rfl
  cases ea1
  have hS : showS (.whil e bb) = [119, 104, 105, 108, 101, 32] ++ showE e ++ showK bb := by unfold showS showK; simp
  rw [hS] at hlen ⊢
  simp only [List.length_append] at hlen
  have HLEN := Lib.hid hlen
  have KW0 := Lib.hid kw0
  have KW1 := Lib.hid kw1
  clear hB hD hat ha hro hlen hS hw0 hT0 hm kw0 kw1
  go_enter Tryd.func68, Tryd.ntmps68
  go_upto_region 1 with fail
  obtain ⟨P1, hP1⟩ : ∃ X, X = w.heap.size := ⟨_, rfl⟩
  obtain ⟨w1, hw1⟩ : ∃ w1, w1 = w.alloc (.cells #[.slice A m c, .slice A' k c'] 27) := ⟨_, rfl⟩
  have ka := Keeps.one w (.cells #[.slice A m c, .slice A' k c'] 27)
  have hx1 : LocH w1 P1 [.slice A m c, .slice A' k c'] 27 := by rw [hw1, hP1]; exact LocH.new w [.slice A m c, .slice A' k c'] 27
  have hs1 : w1.heap.size = P1 + 1 := by rw [hw1, hP1, World.size_alloc]
  have hbl := HB.out.lt
  have hne1 : P1 ≠ b := by omega
  rw [← hP1]
  rw [← hw1] at ka ⊢
  obtain ⟨P2, hP2⟩ : ∃ X, X = w1.heap.size := ⟨_, rfl⟩
  have hne2 : P2 ≠ b := by omega
  obtain ⟨w2, hw2⟩ : ∃ w2, w2 = w1.alloc (.cells #[.int .i64 16, .int .i64 ln, .int .i64 0, .string (ofL []), .slice (some ⟨b0, o0, none⟩) 2 cc] 33) := ⟨_, rfl⟩
  have kb := Keeps.one w1 (.cells #[.int .i64 16, .int .i64 ln, .int .i64 0, .string (ofL []), .slice (some ⟨b0, o0, none⟩) 2 cc] 33)
  have hy2 : LocH w2 P2 [.int .i64 16, .int .i64 ln, .int .i64 0, .string (ofL []), .slice (some ⟨b0, o0, none⟩) 2 cc] 33 := by rw [hw2, hP2]; exact LocH.new w1 [.int .i64 16, .int .i64 ln, .int .i64 0, .string (ofL []), .slice (some ⟨b0, o0, none⟩) 2 cc] 33
  rw [← hw2] at kb ⊢
  (try rw [← hs1])
  (try rw [← hP2])
  have hB1 : w0.heap.size ≤ w1.heap.size := by have := HB.out.1; omega
  have HX2 := Lib.hid (hx1.keep (FrB.ofKeeps (b := b) kb hB1) hne1 (by decide))
  have HY2 := Lib.hid hy2
  have K2 := Lib.hid (ka.trans kb (fun _ _ h => h))
  have F2 : Hid (FrB w0.heap.size b w w2) := Lib.hid (FrB.ofKeeps K2.out HB.out.1)
  have HB2 := Lib.hid (HB.out.keep K2.out)
  have D2 := Lib.hid (below_trans HD.out F2.out.below)
  have HNE1 := Lib.hid hne1
  have HNE2 := Lib.hid hne2
  clear ka kb hw1 hw2 hP1 hP2 hs1 hx1 hy2 hbl hne1 hne2 hB1 HB HD
  have SK : Hid (∀ w', FrB w0.heap.size b w2 w' → (w'.cell? ⟨P1, 0, none⟩ = some (.slice A m c) ∧ w'.cell? ⟨P1, 1, none⟩ = some (.slice A' k c') ∧ w'.cell? ⟨P2, 4, none⟩ = some (.slice (some ⟨b0, o0, none⟩) 2 cc) ∧ w'.cell? ⟨b0, o0, none⟩ = some (.int .i64 xa) ∧ w'.cell? ⟨b0, (o0 + 1), none⟩ = some (.int .i64 xb)) ∧ FrB w0.heap.size b w2 w') := Lib.hid (fun w' q => ⟨⟨(HX2.out.keep q HNE1.out (by decide)).cell 0 _ rfl, (HX2.out.keep q HNE1.out (by decide)).cell 1 _ rfl, (HY2.out.keep q HNE2.out (by decide)).cell 4 _ rfl, ((FrB.back (below_trans D2.out q.below)).cell (cell_ltk KW0.out) (fun h => h)).trans KW0.out, ((FrB.back (below_trans D2.out q.below)).cell (cell_ltk KW1.out) (fun h => h)).trans KW1.out⟩, q⟩)
  have f2 : FrB w0.heap.size b w2 w2 := FrB.refl _ _ _
  have hb2 := HB2.out
  have y0 := HY2.out.cell 0 _ rfl
  obtain ⟨T0, hT0_⟩ : ∃ S, S = ofL (showE e) := ⟨_, rfl⟩
  have HT0_ := Lib.hid hT0_
  have CH : Hid (∀ w', FrB w0.heap.size b w2 w' → BW w0.heap.size b t w' → Calls Tryd.prog 20 #[.agg #[.slice A m c, .slice A' k c'], .int .i64 xa] w' fun r w'' => r = .returned (.string T0) ∧ BW w0.heap.size b t w'' ∧ FrB w0.heap.size b w2 w'') := Lib.hid (fun w' q hb => by
    rw [HT0_.out]
    have kk := FrB.back (below_trans D2.out q.below)
    exact (HC0.out xa w' (HW0.out.keep kk) (HT0.out.keep kk) HV0.out).mono fun r w'' ⟨h1, h2⟩ => ⟨h1, hb.keep h2, q.trans (FrB.ofKeeps h2 hb.1)⟩)
  have q1 : ¬ 9223372036854775807 < 6 + T0.size := by have := HLEN.out; rw [hT0_, ofL_size]; omega
  have WH : Hid (∀ w', FrB w0.heap.size b w2 w' → BW w0.heap.size b t w' → Calls Tryd.prog 36 #[.pointer (some ⟨b, 0, none⟩), .string (({ data := #[119, 104, 105, 108, 101, 32] } : ByteArray) ++ T0)] w' fun r w'' => r = .returned (.tuple #[.int .i64 ((({ data := #[119, 104, 105, 108, 101, 32] } : ByteArray) ++ T0).size : Nat), .nilIface]) ∧ BW w0.heap.size b (t ++ ([119, 104, 105, 108, 101, 32] ++ showE e)) w'' ∧ FrB w0.heap.size b w2 w'') := Lib.hid (fun w' q hb => by
    have e1 : (({ data := #[119, 104, 105, 108, 101, 32] } : ByteArray) ++ T0).data.toList = [119, 104, 105, 108, 101, 32] ++ showE e := by rw [bap_list, HT0_.out, ofL_list]
    refine (ws_any w0.heap.size b t (({ data := #[119, 104, 105, 108, 101, 32] } : ByteArray) ++ T0) w' hb (by rw [← len_size, e1]; have := HLEN.out; rw [List.length_append]; have e2 : ([119, 104, 105, 108, 101, 32] : List UInt8).length = 6 := rfl; omega)).mono fun r w'' ⟨h1, h2, h3⟩ => ⟨h1, ?_, q.trans h3⟩
    rw [e1] at h2
    exact h2)
  have BC1 : Hid (∀ w', FrB w0.heap.size b w2 w' → BW w0.heap.size b (t ++ ([119, 104, 105, 108, 101, 32] ++ showE e)) w' → Calls Tryd.prog 38 #[.pointer (some ⟨b, 0, none⟩), .agg #[.slice A m c, .slice A' k c'], .int .i64 xb] w' fun r w'' => r = .returned (.tuple #[]) ∧ BW w0.heap.size b (t ++ ([119, 104, 105, 108, 101, 32] ++ showE e) ++ showK bb) w'' ∧ FrB w0.heap.size b w2 w'') := Lib.hid (fun w' q hb => (HC1.out xb _ w' hb (below_trans D2.out q.below) HV1.out (by have := HLEN.out; simp only [List.length_append]; omega)).mono fun r w'' ⟨h1, h2, h3⟩ => ⟨h1, h2, q.trans h3⟩)
  clear hT0_
  go_upto_region 10 with fail
  go_region_held3 (fun w' => (w'.cell? ⟨P1, 0, none⟩ = some (.slice A m c) ∧ w'.cell? ⟨P1, 1, none⟩ = some (.slice A' k c') ∧ w'.cell? ⟨P2, 4, none⟩ = some (.slice (some ⟨b0, o0, none⟩) 2 cc) ∧ w'.cell? ⟨b0, o0, none⟩ = some (.int .i64 xa) ∧ w'.cell? ⟨b0, (o0 + 1), none⟩ = some (.int .i64 xb)) ∧ FrB w0.heap.size b w2 w') (first | exact SK.out _ (by assumption) | exact SK.out _ (FrB.drew (by assumption))) (first | (go_at_call 20; refine (CH.out _ (by first | assumption | exact FrB.drew (by assumption)) (by first | assumption | exact BW.drew (by assumption))).mono ?_; rintro r w4 ⟨rfl, hb4, f4⟩) | (go_at_call 36; refine (WH.out _ (by first | assumption | exact FrB.drew (by assumption)) (by first | assumption | exact BW.drew (by assumption))).mono ?_; rintro r w4 ⟨rfl, hb4, f4⟩))
  go_upto_region 11 with fail
  go_region_held3 (fun w' => (w'.cell? ⟨P1, 0, none⟩ = some (.slice A m c) ∧ w'.cell? ⟨P1, 1, none⟩ = some (.slice A' k c') ∧ w'.cell? ⟨P2, 4, none⟩ = some (.slice (some ⟨b0, o0, none⟩) 2 cc) ∧ w'.cell? ⟨b0, o0, none⟩ = some (.int .i64 xa) ∧ w'.cell? ⟨b0, (o0 + 1), none⟩ = some (.int .i64 xb)) ∧ FrB w0.heap.size b w2 w') (first | exact SK.out _ (by assumption) | exact SK.out _ (FrB.drew (by assumption))) (first | (go_at_call 38; refine (BC1.out _ (by first | assumption | exact FrB.drew (by assumption)) (by first | assumption | exact BW.drew (by assumption))).mono ?_; rintro r w5 ⟨rfl, hb5, f5⟩))
  have HB4 : Hid (BW w0.heap.size b (t ++ ([119, 104, 105, 108, 101, 32] ++ showE e ++ showK bb)) _) := Lib.hid (by have h := hb5; simp only [← List.append_assoc] at h ⊢; exact h)
  have F4 := Lib.hid (F2.out.trans f5)
  go_wp2_with fail
  (try simp only [Exit.inBlock, Exit.then])
  exact bodyPost_end (v := .tuple #[]) (by simp [results, Tryd.results68, go_sem]) rfl ⟨rfl, HB4.out, F4.out⟩
end Go.Proofs.YtgelggdgbmldiaaDoor
