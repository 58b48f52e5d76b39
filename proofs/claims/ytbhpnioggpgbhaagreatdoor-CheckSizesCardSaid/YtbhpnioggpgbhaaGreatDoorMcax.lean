/-
 Layer 4: the program's call. Written by an AI agent.
-/
import Derived.Test.YtbhpnioggpgbhaaGreatDoorMcaw
namespace Go.Proofs.YtbhpnioggpgbhaaGreatDoor
open Go Go.RowKit Go.Shelf
set_option linter.unusedVariables false
set_option linter.unusedSimpArgs false
theorem flatP2 : ∀ (PS : List (List UInt8 × Int)) (i : Nat) (p : List UInt8 × Int), PS[i]? = some p → (flatP PS)[i * 2]? = some (.string (ofL p.1)) ∧ (flatP PS)[i * 2 + 1]? = some (.int .i64 p.2)
 | [], i, p, h => absurd h (by simp)
 | a :: L, 0, p, h => by
  have : a = p := Option.some.inj h
  subst this
  exact ⟨rfl, rfl⟩
 | a :: L, i + 1, p, h => by
  have ih := flatP2 L i p h
  have e : flatP (a :: L) = PmV a ++ flatP L := rfl
  have e2 : (PmV a).length = 2 := rfl
  rw [e, show (i + 1) * 2 = (PmV a).length + i * 2 by rw [e2]; omega, show (PmV a).length + i * 2 + 1 = (PmV a).length + (i * 2 + 1) by omega, List.getElem?_append_right (by omega), List.getElem?_append_right (by omega)]
  simpa using ih
set_option maxRecDepth 100000 in
set_option maxHeartbeats 16000000 in
theorem pcall_any {w : World} {q : CkQ} {nd : List Nd} {fs : List Fnc} {w0 : World} {R : Nat → Prop} {s : CkS} (h : Ck w q nd fs w0 R s) (ln n : Int) (x : List UInt8) (a : Option Addr) (m c : Nat) (hk6 : fs.length ≤ 1000) (F : Fnc) (hv : lookF fs x = some F) (hp6 : F.ps.length ≤ 1000) (l : List Int) (hl : l.length = m) (hm6 : m ≤ 1000000) (hr : RdI w0 a l) (ts : List Int) (hts : ts.length = m) (hb : ∀ k, k < m → ∃ i : Nat, l[k]? = some (i : Int) ∧ i < q.m ∧ s.ty[i]? = ts[k]?) (z : Int × Int) (hz : z = if m ≠ F.ps.length then (0, 43) else if ts = F.ps.map Prod.snd then (F.ret, 0) else (0, 42)) :
  Calls Tryz.prog 130 #[.pointer (some ⟨q.P, 0, none⟩), .agg #[.int .i64 21, .int .i64 ln, .int .i64 n, .string (ofL x), .slice a m c]] w fun e w' => e = .returned (.tuple #[.int .i64 z.1, .int .i64 z.2]) ∧ Keeps (fun _ => False) w w' := by
 have HH := Lib.hid h
 clear h
 obtain ⟨X, hX⟩ : ∃ X, X = ofL x := ⟨_, rfl⟩
 have HXX := Lib.hid hX
 rw [← hX]
 clear hX
 obtain ⟨I, hI, hFI⟩ := idx_look.2 F hv
 obtain ⟨hIl, hIe⟩ := List.getElem?_eq_some_iff.1 hFI
 obtain ⟨fb, fo, hA, hc⟩ := HH.out.treeR.fnAt (by omega)
 obtain ⟨fa, fc, d0, d1, d2, d3, d4, d5⟩ := hc I hIl
 rw [hIe] at d0 d1 d2 d3 d4 d5
 have FC0 : Hid (∀ w', Keeps (fun _ => False) w w' → Calls Tryz.prog 45 #[.agg #[.slice q.A q.m q.c, .slice (some ⟨fb, fo, none⟩) q.k q.c'], .string X] w' fun e w'' => e = .returned (.int .i64 I) ∧ Keeps (fun _ => False) w' w'') := Lib.hid (fun w' k => by
  have hc := HH.out.keep k
  obtain ⟨_, hx⟩ := HH.out
  have := pfun_any nd fs q.A q.A' q.m q.k q.c q.c' x hx.hk (by rw [hx.hk]; exact hk6) w' hc.treeR
  rw [← HXX.out, hI, hA] at this
  exact this)
 obtain ⟨v0, hx⟩ := HH.out
 have c0 := hx.c0
 have c1 := hx.c1
 have c2 := hx.c2
 rw [hA] at c1
 have hIk : (I : Int) < (q.k : Int) := by rw [hx.hk]; omega
 have hI0 : (0 : Int) ≤ (I : Int) := by omega
 have HB : Hid (∀ k, k < m → ∃ (i : Nat) (t : Int) (lb lo : Nat), a = some ⟨lb, lo, none⟩ ∧ w.cell? ⟨lb, lo + k, none⟩ = some (.int .i64 i) ∧ (i : Int) < (q.m : Int) ∧ w.cell? ⟨q.T, i, none⟩ = some (.int .i64 t) ∧ ts[k]? = some t) := Lib.hid (fun k hk => by
  obtain ⟨i, h1, h2, h3⟩ := hb k hk
  obtain ⟨lb, lo, e, hlc⟩ := hr.get (by omega) h1
  obtain ⟨t, ht⟩ : ∃ t, ts[k]? = some t := ⟨ts[k]'(by omega), List.getElem?_eq_getElem _⟩
  exact ⟨i, t, lb, lo, e, (hx.up.cell (cell_ltk hlc) (by have := cell_ltk hlc; omega)).trans hlc, by omega, hx.tT.cell i t (by rw [h3]; exact ht), ht⟩)
 generalize q.P = P at c0 c1 c2 ⊢
 generalize q.A = A at c0 FC0
 generalize q.m = M at c0 c2 FC0 HB
 generalize q.c = cc at c0 FC0
 generalize q.k = KN at c1 FC0 hIk
 generalize q.c' = cd at c1 FC0
 generalize q.T = TT at c2 HB
 obtain ⟨SF, hSF⟩ : ∃ t, t = ofL F.s := ⟨_, rfl⟩
 obtain ⟨fl, hfl⟩ : ∃ t, t = F.ln := ⟨_, rfl⟩
 obtain ⟨pn, hpn⟩ : ∃ t, t = F.ps.length := ⟨_, rfl⟩
 obtain ⟨rt, hrt⟩ : ∃ t, t = F.ret := ⟨_, rfl⟩
 obtain ⟨bd, hbd⟩ : ∃ t, t = F.body := ⟨_, rfl⟩
 rw [← hSF] at d0
 rw [← hfl] at d1
 rw [← hpn] at d2
 rw [← hrt] at d3
 rw [← hbd] at d4
 rw [← hpn, ← hrt] at hz
 rw [← hpn] at hp6
 obtain ⟨PS, hPS⟩ : ∃ t, t = F.ps := ⟨_, rfl⟩
 rw [← hPS] at d5 hz hpn
 have HZ := Lib.hid hz
 have HPN := Lib.hid hpn
 have HD5 := Lib.hid d5
 clear hx hA hc hI hFI hIl hIe hv hk6 HH hb hr hl hz hSF hfl hpn hrt hbd hPS d5
 go_enter Tryz.func130, Tryz.ntmps130
 go_upto_region 1 with fail

 obtain ⟨P5, hP5⟩ : ∃ X, X = w.heap.size := ⟨_, rfl⟩
 obtain ⟨w1, hw1⟩ : ∃ w1, w1 = w.alloc (.cells #[.int .i64 21, .int .i64 ln, .int .i64 n, .string X, .slice a m c] 41) := ⟨_, rfl⟩
 have ka := Keeps.one w (.cells #[.int .i64 21, .int .i64 ln, .int .i64 n, .string X, .slice a m c] 41)
 have HX1 : Hid (Loc w1 (fun _ => False) P5 [.int .i64 21, .int .i64 ln, .int .i64 n, .string X, .slice a m c]) := Lib.hid (by rw [hw1, hP5]; exact Loc.new (fun h => h) [.int .i64 21, .int .i64 ln, .int .i64 n, .string X, .slice a m c] 41)
 have HP5 := Lib.hid hP5
 rw [← hP5]
 rw [← hw1] at ka ⊢
 have K1 := Lib.hid ka
 have b0 := HX1.out.cells 0 _ rfl
 have b3 := HX1.out.cells 3 _ rfl
 have b4 := HX1.out.cells 4 _ rfl
 clear ka hw1 hP5

 have FC : Hid (∀ w', Keeps (fun b => w1.heap.size ≤ b) w1 w' → Calls Tryz.prog 45 #[.agg #[.slice A M cc, .slice (some ⟨fb, fo, none⟩) KN cd], .string X] w' fun e w'' => e = .returned (.int .i64 I) ∧ Keeps (fun b => w1.heap.size ≤ b) w1 w'' ∧ Keeps (fun _ => False) w' w'') := Lib.hid (fun w' k => (FC0.out w' (K1.out.trans (kback k rfl) (fun _ _ h => h))).mono (fun e w'' h => ⟨h.1, k.trans (h.2.mono (T := fun b => w1.heap.size ≤ b) (fun _ _ h => h.elim)) (fun _ _ h => h), h.2⟩))
 clear FC0
 replace c0 := (K1.out.cell (cell_ltk c0) (fun h => h)).trans c0
 replace c1 := (K1.out.cell (cell_ltk c1) (fun h => h)).trans c1
 replace c2 := (K1.out.cell (cell_ltk c2) (fun h => h)).trans c2
 replace d0 := (K1.out.cell (cell_ltk d0) (fun h => h)).trans d0
 replace d1 := (K1.out.cell (cell_ltk d1) (fun h => h)).trans d1
 replace d2 := (K1.out.cell (cell_ltk d2) (fun h => h)).trans d2
 replace d3 := (K1.out.cell (cell_ltk d3) (fun h => h)).trans d3
 replace d4 := (K1.out.cell (cell_ltk d4) (fun h => h)).trans d4
 have SK : Hid (∀ w', Keeps (fun b => w1.heap.size ≤ b) w1 w' → (w'.cell? ⟨P, 0, none⟩ = some (.slice A M cc) ∧ w'.cell? ⟨P, 1, none⟩ = some (.slice (some ⟨fb, fo, none⟩) KN cd) ∧ w'.cell? ⟨P5, 3, none⟩ = some (.string X) ∧ w'.cell? ⟨fb, fo + I * 5, none⟩ = some (.string SF) ∧ w'.cell? ⟨fb, fo + I * 5 + 1, none⟩ = some (.int .i64 fl) ∧ w'.cell? ⟨fb, fo + I * 5 + 2, none⟩ = some (.slice fa pn fc) ∧ w'.cell? ⟨fb, fo + I * 5 + 3, none⟩ = some (.int .i64 rt) ∧ w'.cell? ⟨fb, fo + I * 5 + 4, none⟩ = some (.int .i64 bd)) ∧ Keeps (fun b => w1.heap.size ≤ b) w1 w') := Lib.hid (fun w' q => ⟨⟨(q.cell (cell_ltk c0) (fun hb => Nat.not_le.2 (cell_ltk c0) hb)).trans c0, (q.cell (cell_ltk c1) (fun hb => Nat.not_le.2 (cell_ltk c1) hb)).trans c1, (q.cell (cell_ltk b3) (fun hb => Nat.not_le.2 (cell_ltk b3) hb)).trans b3, (q.cell (cell_ltk d0) (fun hb => Nat.not_le.2 (cell_ltk d0) hb)).trans d0, (q.cell (cell_ltk d1) (fun hb => Nat.not_le.2 (cell_ltk d1) hb)).trans d1, (q.cell (cell_ltk d2) (fun hb => Nat.not_le.2 (cell_ltk d2) hb)).trans d2, (q.cell (cell_ltk d3) (fun hb => Nat.not_le.2 (cell_ltk d3) hb)).trans d3, (q.cell (cell_ltk d4) (fun hb => Nat.not_le.2 (cell_ltk d4) hb)).trans d4⟩, q⟩)
 clear c0 c1 b3 d0 d1 d2 d3 d4
 have HLW : Hid (Loc (w1.alloc (.cells #[.string { data := #[] }, .int .i64 0, .slice none 0 0, .int .i64 0, .int .i64 0] 49)) (fun _ => False) w1.heap.size [.string ⟨#[]⟩, .int .i64 0, .slice none 0 0, .int .i64 0, .int .i64 0]) := Lib.hid (Loc.new (fun h => h) [.string ⟨#[]⟩, .int .i64 0, .slice none 0 0, .int .i64 0, .int .i64 0] 49)
 have HLD : Hid (∀ w3, Keeps (fun _ => False) (w1.alloc (.cells #[.string { data := #[] }, .int .i64 0, .slice none 0 0, .int .i64 0, .int .i64 0] 49)).drew w3 → w3.cell? ⟨w1.heap.size, 0, none⟩ = some (.string ⟨#[]⟩) ∧ w3.cell? ⟨w1.heap.size, 1, none⟩ = some (.int .i64 0) ∧ w3.cell? ⟨w1.heap.size, 2, none⟩ = some (.slice none 0 0) ∧ w3.cell? ⟨w1.heap.size, 3, none⟩ = some (.int .i64 0) ∧ w3.cell? ⟨w1.heap.size, 4, none⟩ = some (.int .i64 0) ∧ w3.frozen? ⟨w1.heap.size, 0, none⟩ = false ∧ w3.frozen? ⟨w1.heap.size, 1, none⟩ = false ∧ w3.frozen? ⟨w1.heap.size, 2, none⟩ = false ∧ w3.frozen? ⟨w1.heap.size, 3, none⟩ = false ∧ w3.frozen? ⟨w1.heap.size, 4, none⟩ = false ∧ Hid (Loc w3 (fun _ => False) w1.heap.size [.string ⟨#[]⟩, .int .i64 0, .slice none 0 0, .int .i64 0, .int .i64 0])) := Lib.hid (fun w3 k => ⟨(k.cell HLW.out.lt (fun h => h)).trans (HLW.out.cells 0 _ rfl), (k.cell HLW.out.lt (fun h => h)).trans (HLW.out.cells 1 _ rfl), (k.cell HLW.out.lt (fun h => h)).trans (HLW.out.cells 2 _ rfl), (k.cell HLW.out.lt (fun h => h)).trans (HLW.out.cells 3 _ rfl), (k.cell HLW.out.lt (fun h => h)).trans (HLW.out.cells 4 _ rfl), (k.frozen HLW.out.lt (fun h => h)).trans (HLW.out.fz 0), (k.frozen HLW.out.lt (fun h => h)).trans (HLW.out.fz 1), (k.frozen HLW.out.lt (fun h => h)).trans (HLW.out.fz 2), (k.frozen HLW.out.lt (fun h => h)).trans (HLW.out.fz 3), (k.frozen HLW.out.lt (fun h => h)).trans (HLW.out.fz 4), Lib.hid (HLW.out.keeps (((Keeps.refl (fun _ => False) _).drew).trans k (fun _ _ h => h)))⟩)
 clear HLW
 go_wp2_with fail
 go_region_held3 (fun w' => (w'.cell? ⟨P, 0, none⟩ = some (.slice A M cc) ∧ w'.cell? ⟨P, 1, none⟩ = some (.slice (some ⟨fb, fo, none⟩) KN cd) ∧ w'.cell? ⟨P5, 3, none⟩ = some (.string X) ∧ w'.cell? ⟨fb, fo + I * 5, none⟩ = some (.string SF) ∧ w'.cell? ⟨fb, fo + I * 5 + 1, none⟩ = some (.int .i64 fl) ∧ w'.cell? ⟨fb, fo + I * 5 + 2, none⟩ = some (.slice fa pn fc) ∧ w'.cell? ⟨fb, fo + I * 5 + 3, none⟩ = some (.int .i64 rt) ∧ w'.cell? ⟨fb, fo + I * 5 + 4, none⟩ = some (.int .i64 bd)) ∧ Keeps (fun b => w1.heap.size ≤ b) w1 w') (first | with_reducible exact SK.out _ (Keeps.setCell (Keeps.setCell (Keeps.setCell (Keeps.setCell (Keeps.setCell k3 (fun _ => Nat.le_refl _) _) (fun _ => Nat.le_refl _) _) (fun _ => Nat.le_refl _) _) (fun _ => Nat.le_refl _) _) (fun _ => Nat.le_refl _) _) | with_reducible exact SK.out _ (Keeps.refl _ _) | with_reducible exact SK.out _ ((Keeps.refl _ _).drew) | with_reducible exact SK.out _ (by assumption) | with_reducible exact SK.out _ (Keeps.alloc (by assumption) _) | with_reducible exact SK.out _ ((Keeps.refl _ _).drew.alloc _)) (first | (go_at_call 45; refine (FC.out _ (by first | assumption | exact (Keeps.refl _ _).drew | exact Keeps.alloc (by assumption) _ | exact ((Keeps.refl _ _).drew.alloc _))).mono ?_; rintro e w3 ⟨rfl, k3, kx⟩; (try (have yy := HLD.out _ (by with_reducible assumption); obtain ⟨y0, y1, y2, y3, y4, u0, u1, u2, u3, u4, LZ⟩ := yy)); clear kx))
 ·obtain ⟨P6, hP6⟩ : ∃ P6, P6 = w3.heap.size := ⟨_, rfl⟩
  obtain ⟨w6, hw6⟩ : ∃ w6, w6 = w3.alloc (.cells #[.string SF, .int .i64 fl, .slice fa pn fc, .int .i64 rt, .int .i64 bd] 49) := ⟨_, rfl⟩
  have L6 : Loc w6 (fun _ => False) P6 [.string SF, .int .i64 fl, .slice fa pn fc, .int .i64 rt, .int .i64 bd] := by rw [hw6, hP6]; exact Loc.new (fun h => h) [.string SF, .int .i64 fl, .slice fa pn fc, .int .i64 rt, .int .i64 bd] 49
  have k6 : Keeps (fun b => w1.heap.size ≤ b) w1 w6 := by rw [hw6]; exact Keeps.alloc k3 _
  rw [← hP6, ← hw6]
  clear hP6 hw6
  have K6 := Lib.hid k6
  have z2 := L6.cells 2 _ rfl
  have z3 := L6.cells 3 _ rfl
  have B4 := (k6.cell (cell_ltk b4) (fun hb => Nat.not_le.2 (cell_ltk b4) hb)).trans b4
  have C2 := (k6.cell (cell_ltk c2) (fun hb => Nat.not_le.2 (cell_ltk c2) hb)).trans c2
  have KW := Lib.hid (K1.out.trans (kback k6 rfl) (fun _ _ h => h))
  clear L6 k6 b4 c2 FC SK HLD
  by_cases hmp : m = pn
  ·subst hmp
   have HTS := Lib.hid hts
   have HMZ : Hid (∀ zz, (zz = if ts = PS.map Prod.snd then (rt, 0) else (0, 42)) → z = zz) := Lib.hid (fun zz h => by rw [HZ.out, h, if_neg (by simp)])
   clear hts
   go_wp2_with fail
   go_loopg [7, 8, 35] (m + 1) (fun gq s7 s8 s35 wr => ∃ i : Nat, s35 = .int .i64 i ∧ i + gq = m + 1 ∧ i ≤ m ∧ (∀ j, j < i → ts[j]? = (PS.map Prod.snd)[j]?) ∧ Keeps (fun _ => False) w6 wr)
   case atStart => exact ⟨0, rfl, by omega, by omega, fun j h => by omega, Keeps.refl _ _⟩
   case round =>
    obtain ⟨i, rfl, hiq, hin1, hno, kr⟩ := hrel
    have KR := Lib.hid (KW.out.trans kr (fun _ _ h => h))
    have KR1 := Lib.hid kr
    have HIQ := Lib.hid hiq
    have HNO := Lib.hid hno
    have b4r := (kr.cell (cell_ltk B4) (fun h => h)).trans B4
    have c2r := (kr.cell (cell_ltk C2) (fun h => h)).trans C2
    have z3r := (kr.cell (cell_ltk z3) (fun h => h)).trans z3
    clear hiq kr hno B4 C2 z2 z3
    by_cases hin : i < m
    ·have hI : (i : Int) < (m : Int) := by omega
     have hdI : decide ((i : Int) < (m : Int)) = true := decide_eq_true hI
     have hi0 : (0 : Int) ≤ (i : Int) := by omega
     have wi : IntKind.i64.wrap ((i : Int) + 1) = (i : Int) + 1 := IntWalk.i64_in _ (by omega)
     have HIN := Lib.hid hin
     obtain ⟨ii, t, lb, lo, ha, hlc, hiM, htc, hti⟩ := HB.out i hin
     have hilp : i < PS.length := by rw [← HPN.out]; exact hin
     obtain ⟨pr, hpr⟩ : ∃ pr, PS[i]? = some pr := ⟨PS[i], List.getElem?_eq_getElem hilp⟩
     obtain ⟨g0, g1⟩ := flatP2 PS i pr hpr
     obtain ⟨pb, po, hfa, hpc⟩ := HD5.out (by rw [flatP_length]; omega)
     have v0 := hpc _ _ g0
     have v1 := hpc _ _ g1
     replace v0 := (KR.out.cell (cell_ltk v0) (fun h => h)).trans v0
     replace v1 := (KR.out.cell (cell_ltk v1) (fun h => h)).trans v1
     replace hlc := (KR.out.cell (cell_ltk hlc) (fun h => h)).trans hlc
     replace htc := (KR.out.cell (cell_ltk htc) (fun h => h)).trans htc
     have HTI : Hid ((ts[i]? = (PS.map Prod.snd)[i]?) ↔ t = pr.2) := Lib.hid (by rw [hti, List.getElem?_map, hpr]; exact ⟨fun h => Option.some.inj h, fun h => congrArg some h⟩)
     obtain ⟨SP, hSP⟩ : ∃ S, S = ofL pr.1 := ⟨_, rfl⟩
     obtain ⟨pt, hpt⟩ : ∃ S, S = pr.2 := ⟨_, rfl⟩
     rw [← hSP] at v0
     rw [← hpt] at v1 HTI
     have hii0 : (0 : Int) ≤ (ii : Int) := by omega
     rw [← Nat.add_assoc] at v1
     subst ha
     subst hfa
     clear hpc g0 g1 hSP hpt hpr hti hilp hin1
     go_upto_region 7 with fail
     obtain ⟨P8, hP8⟩ : ∃ X, X = wr.heap.size := ⟨_, rfl⟩
     obtain ⟨w8, hw8⟩ : ∃ w8, w8 = wr.alloc (.cells #[.string SP, .int .i64 pt] 69) := ⟨_, rfl⟩
     have kb := Keeps.one wr (.cells #[.string SP, .int .i64 pt] 69)
     have L8 : Loc w8 (fun _ => False) P8 [.string SP, .int .i64 pt] := by rw [hw8, hP8]; exact Loc.new (fun h => h) [.string SP, .int .i64 pt] 69
     rw [← hP8]
     rw [← hw8] at kb ⊢
     have f1 := L8.cells 1 _ rfl
     have d4r := (kb.cell (cell_ltk b4r) (fun h => h)).trans b4r
     have d2r := (kb.cell (cell_ltk c2r) (fun h => h)).trans c2r
     have dlr := (kb.cell (cell_ltk hlc) (fun h => h)).trans hlc
     have dtr := (kb.cell (cell_ltk htc) (fun h => h)).trans htc
     have K8 := Lib.hid (KR.out.trans kb (fun _ _ h => h))
     have K81 := Lib.hid (KR1.out.trans kb (fun _ _ h => h))
     clear L8 hw8 hP8 kb b4r c2r hlc htc v0 v1 z3r KR KR1
     by_cases e : t = pt
     ·have HM : Hid (∀ j, j < i + 1 → ts[j]? = (PS.map Prod.snd)[j]?) := Lib.hid (fun j hj => by
       by_cases e2 : j = i
       ·rw [e2]; exact HTI.out.2 e
       ·exact HNO.out j (by omega))
      subst e
      go_quiet (fail)
      have kq := Lib.hid (K81.out.trans (drewN_keeps w8 nq) (fun _ _ h => h))
      go_wp2_with fail
      go_roundg (gk - 1)
      case measure => go_light; have h1 := HIQ.out; have h2 := HIN.out; omega
      case rel => exact ⟨i + 1, by go_num, by have h1 := HIQ.out; have h2 := HIN.out; go_light; omega, by have h2 := HIN.out; go_light; omega, HM.out, kq.out⟩
     ·have HM : Hid (z = (0, 42)) := Lib.hid (HMZ.out _ (by rw [if_neg (fun h => e (HTI.out.1 (by rw [h])))]))
      have eb : (t == pt) = false := by simpa using e
      go_quiet (fail)
      go_wp2_with fail
      go_ret2
      exact ⟨by (rw [HM.out]; first | done | rfl), K8.out.trans (drewN_keeps _ _) (fun _ _ h => h)⟩
    ·obtain rfl : m = i := by omega
     have hI : ¬ (m : Int) < (m : Int) := by omega
     have hdI : decide ((m : Int) < (m : Int)) = false := decide_eq_false hI
     have HM : Hid (z = (rt, 0)) := Lib.hid (HMZ.out _ (by
      rw [if_pos]
      apply List.ext_getElem?
      intro j
      by_cases hj : j < m
      ·exact HNO.out j hj
      ·rw [List.getElem?_eq_none (by rw [HTS.out]; omega), List.getElem?_eq_none (by rw [List.length_map, ← HPN.out]; omega)]))
     clear hin hin1 b4r c2r
     go_wp2_with fail
     go_ret2
     exact ⟨by (rw [HM.out]; first | done | rfl), KR.out⟩
  ·have hmpI : ((m : Int) == (pn : Int)) = false := by simp; omega
   have HM : Hid (z = (0, 43)) := Lib.hid (by rw [HZ.out, if_pos hmp])
   go_wp2_with fail
   go_ret2
   exact ⟨by (rw [HM.out]; first | done | rfl), KW.out⟩
 ·obtain ⟨P6, hP6⟩ : ∃ P6, P6 = w1.heap.size := ⟨_, rfl⟩
  obtain ⟨w6, hw6⟩ : ∃ w6, w6 = ((((w3.setCell ⟨w1.heap.size, 0, none⟩ (.string SF)).setCell ⟨w1.heap.size, 1, none⟩ (.int .i64 fl)).setCell ⟨w1.heap.size, 2, none⟩ (.slice fa pn fc)).setCell ⟨w1.heap.size, 3, none⟩ (.int .i64 rt)).setCell ⟨w1.heap.size, 4, none⟩ (.int .i64 bd) := ⟨_, rfl⟩
  have L6 : Loc w6 (fun _ => False) P6 [.string SF, .int .i64 fl, .slice fa pn fc, .int .i64 rt, .int .i64 bd] := by rw [hw6, hP6]; exact ((((LZ.out.set 0 (.string SF) (by simp)).set 1 (.int .i64 fl) (by simp)).set 2 (.slice fa pn fc) (by simp)).set 3 (.int .i64 rt) (by simp)).set 4 (.int .i64 bd) (by simp)
  have k6 : Keeps (fun b => w1.heap.size ≤ b) w1 w6 := by rw [hw6]; exact (Keeps.setCell (Keeps.setCell (Keeps.setCell (Keeps.setCell (Keeps.setCell k3 (fun _ => Nat.le_refl _) _) (fun _ => Nat.le_refl _) _) (fun _ => Nat.le_refl _) _) (fun _ => Nat.le_refl _) _) (fun _ => Nat.le_refl _) _)
  rw [← hw6, ← hP6]
  clear hP6 hw6 y0 y1 y2 y3 y4 u0 u1 u2 u3 u4 LZ
  have K6 := Lib.hid k6
  have z2 := L6.cells 2 _ rfl
  have z3 := L6.cells 3 _ rfl
  have B4 := (k6.cell (cell_ltk b4) (fun hb => Nat.not_le.2 (cell_ltk b4) hb)).trans b4
  have C2 := (k6.cell (cell_ltk c2) (fun hb => Nat.not_le.2 (cell_ltk c2) hb)).trans c2
  have KW := Lib.hid (K1.out.trans (kback k6 rfl) (fun _ _ h => h))
  clear L6 k6 b4 c2 FC SK HLD
  by_cases hmp : m = pn
  ·subst hmp
   have HTS := Lib.hid hts
   have HMZ : Hid (∀ zz, (zz = if ts = PS.map Prod.snd then (rt, 0) else (0, 42)) → z = zz) := Lib.hid (fun zz h => by rw [HZ.out, h, if_neg (by simp)])
   clear hts
   go_wp2_with fail
   go_loopg [7, 8, 35] (m + 1) (fun gq s7 s8 s35 wr => ∃ i : Nat, s35 = .int .i64 i ∧ i + gq = m + 1 ∧ i ≤ m ∧ (∀ j, j < i → ts[j]? = (PS.map Prod.snd)[j]?) ∧ Keeps (fun _ => False) w6 wr)
   case atStart => exact ⟨0, rfl, by omega, by omega, fun j h => by omega, Keeps.refl _ _⟩
   case round =>
    obtain ⟨i, rfl, hiq, hin1, hno, kr⟩ := hrel
    have KR := Lib.hid (KW.out.trans kr (fun _ _ h => h))
    have KR1 := Lib.hid kr
    have HIQ := Lib.hid hiq
    have HNO := Lib.hid hno
    have b4r := (kr.cell (cell_ltk B4) (fun h => h)).trans B4
    have c2r := (kr.cell (cell_ltk C2) (fun h => h)).trans C2
    have z3r := (kr.cell (cell_ltk z3) (fun h => h)).trans z3
    clear hiq kr hno B4 C2 z2 z3
    by_cases hin : i < m
    ·have hI : (i : Int) < (m : Int) := by omega
     have hdI : decide ((i : Int) < (m : Int)) = true := decide_eq_true hI
     have hi0 : (0 : Int) ≤ (i : Int) := by omega
     have wi : IntKind.i64.wrap ((i : Int) + 1) = (i : Int) + 1 := IntWalk.i64_in _ (by omega)
     have HIN := Lib.hid hin
     obtain ⟨ii, t, lb, lo, ha, hlc, hiM, htc, hti⟩ := HB.out i hin
     have hilp : i < PS.length := by rw [← HPN.out]; exact hin
     obtain ⟨pr, hpr⟩ : ∃ pr, PS[i]? = some pr := ⟨PS[i], List.getElem?_eq_getElem hilp⟩
     obtain ⟨g0, g1⟩ := flatP2 PS i pr hpr
     obtain ⟨pb, po, hfa, hpc⟩ := HD5.out (by rw [flatP_length]; omega)
     have v0 := hpc _ _ g0
     have v1 := hpc _ _ g1
     replace v0 := (KR.out.cell (cell_ltk v0) (fun h => h)).trans v0
     replace v1 := (KR.out.cell (cell_ltk v1) (fun h => h)).trans v1
     replace hlc := (KR.out.cell (cell_ltk hlc) (fun h => h)).trans hlc
     replace htc := (KR.out.cell (cell_ltk htc) (fun h => h)).trans htc
     have HTI : Hid ((ts[i]? = (PS.map Prod.snd)[i]?) ↔ t = pr.2) := Lib.hid (by rw [hti, List.getElem?_map, hpr]; exact ⟨fun h => Option.some.inj h, fun h => congrArg some h⟩)
     obtain ⟨SP, hSP⟩ : ∃ S, S = ofL pr.1 := ⟨_, rfl⟩
     obtain ⟨pt, hpt⟩ : ∃ S, S = pr.2 := ⟨_, rfl⟩
     rw [← hSP] at v0
     rw [← hpt] at v1 HTI
     have hii0 : (0 : Int) ≤ (ii : Int) := by omega
     rw [← Nat.add_assoc] at v1
     subst ha
     subst hfa
     clear hpc g0 g1 hSP hpt hpr hti hilp hin1
     go_upto_region 7 with fail
     obtain ⟨P8, hP8⟩ : ∃ X, X = wr.heap.size := ⟨_, rfl⟩
     obtain ⟨w8, hw8⟩ : ∃ w8, w8 = wr.alloc (.cells #[.string SP, .int .i64 pt] 69) := ⟨_, rfl⟩
     have kb := Keeps.one wr (.cells #[.string SP, .int .i64 pt] 69)
     have L8 : Loc w8 (fun _ => False) P8 [.string SP, .int .i64 pt] := by rw [hw8, hP8]; exact Loc.new (fun h => h) [.string SP, .int .i64 pt] 69
     rw [← hP8]
     rw [← hw8] at kb ⊢
     have f1 := L8.cells 1 _ rfl
     have d4r := (kb.cell (cell_ltk b4r) (fun h => h)).trans b4r
     have d2r := (kb.cell (cell_ltk c2r) (fun h => h)).trans c2r
     have dlr := (kb.cell (cell_ltk hlc) (fun h => h)).trans hlc
     have dtr := (kb.cell (cell_ltk htc) (fun h => h)).trans htc
     have K8 := Lib.hid (KR.out.trans kb (fun _ _ h => h))
     have K81 := Lib.hid (KR1.out.trans kb (fun _ _ h => h))
     clear L8 hw8 hP8 kb b4r c2r hlc htc v0 v1 z3r KR KR1
     by_cases e : t = pt
     ·have HM : Hid (∀ j, j < i + 1 → ts[j]? = (PS.map Prod.snd)[j]?) := Lib.hid (fun j hj => by
       by_cases e2 : j = i
       ·rw [e2]; exact HTI.out.2 e
       ·exact HNO.out j (by omega))
      subst e
      go_quiet (fail)
      have kq := Lib.hid (K81.out.trans (drewN_keeps w8 nq) (fun _ _ h => h))
      go_wp2_with fail
      go_roundg (gk - 1)
      case measure => go_light; have h1 := HIQ.out; have h2 := HIN.out; omega
      case rel => exact ⟨i + 1, by go_num, by have h1 := HIQ.out; have h2 := HIN.out; go_light; omega, by have h2 := HIN.out; go_light; omega, HM.out, kq.out⟩
     ·have HM : Hid (z = (0, 42)) := Lib.hid (HMZ.out _ (by rw [if_neg (fun h => e (HTI.out.1 (by rw [h])))]))
      have eb : (t == pt) = false := by simpa using e
      go_quiet (fail)
      go_wp2_with fail
      go_ret2
      exact ⟨by (rw [HM.out]; first | done | rfl), K8.out.trans (drewN_keeps _ _) (fun _ _ h => h)⟩
    ·obtain rfl : m = i := by omega
     have hI : ¬ (m : Int) < (m : Int) := by omega
     have hdI : decide ((m : Int) < (m : Int)) = false := decide_eq_false hI
     have HM : Hid (z = (rt, 0)) := Lib.hid (HMZ.out _ (by
      rw [if_pos]
      apply List.ext_getElem?
      intro j
      by_cases hj : j < m
      ·exact HNO.out j hj
      ·rw [List.getElem?_eq_none (by rw [HTS.out]; omega), List.getElem?_eq_none (by rw [List.length_map, ← HPN.out]; omega)]))
     clear hin hin1 b4r c2r
     go_wp2_with fail
     go_ret2
     exact ⟨by (rw [HM.out]; first | done | rfl), KR.out⟩
  ·have hmpI : ((m : Int) == (pn : Int)) = false := by simp; omega
   have HM : Hid (z = (0, 43)) := Lib.hid (by rw [HZ.out, if_pos hmp])
   go_wp2_with fail
   go_ret2
   exact ⟨by (rw [HM.out]; first | done | rfl), KW.out⟩
end Go.Proofs.YtbhpnioggpgbhaaGreatDoor
