/-
  Layer 8: the walk of CodeLong. Written by an AI agent.
-/
import Derived.Test.YtoombjbpblighaaDoorCoQ
import Derived.Test.YtoombjbpblighaaDoorCoE
namespace Go.Proofs.YtoombjbpblighaaDoor
open Go Go.RowKit Go.Shelf
set_option linter.unusedVariables false
set_option linter.unusedSimpArgs false

def InsR (x : Ins) : Prop := -9223372036854775808 ≤ x.o ∧ x.o ≤ 9223372036854775807 ∧ -9223372036854775808 ≤ x.a ∧ x.a ≤ 9223372036854775807 ∧ -9223372036854775808 ≤ x.b ∧ x.b ≤ 9223372036854775807
theorem few_size2 (x : Ins) : x.few.s.size ≤ 50 := by
  show (if 50 < x.s.size then x.s.extract 0 50 else x.s).size ≤ 50
  by_cases h : 50 < x.s.size
  · rw [if_pos h, ext_size _ _ (by omega)]
    omega
  · rw [if_neg h]
    omega
theorem own_rdI {w : World} {A : Option Addr} {c n : Nat} {L : List Ins} (h : w.ownsRow 0 52 4 (.slice A n c) n (flatI L)) (hn : n = L.length) : RdI w A L := fun h0 => by
  rcases h.2 with ⟨_, h1⟩ | ⟨g, cap, cur, e1, _⟩
  · omega
  · simp only [Value.slice.injEq] at e1
    obtain ⟨rfl, _, rfl⟩ := e1
    refine ⟨g, 0, rfl, fun k hk => ?_⟩
    obtain ⟨f0, f1, f2, f3⟩ := flatI_at L k hk
    rw [Nat.zero_add]
    exact ⟨(h.cellAt _ (by omega)).trans f0, (h.cellAt _ (by omega)).trans f1, (h.cellAt _ (by omega)).trans f2, (h.cellAt _ (by omega)).trans f3⟩

/-- How many blanks a line has. -/
theorem line_blanks (op a b : Int) (s : List UInt8) (h : hasN op ≠ 4) : (lineN op a b s).count 32 = if hasN op = 0 then 0 else if hasN op = 1 then 1 else 2 := by
  have hn : (nameN op).count 32 = 0 := List.count_eq_zero.2 (name_no op)
  have ha : (Lib.itoa a).count 32 = 0 := List.count_eq_zero.2 (itoa_no a)
  have hb : (Lib.itoa b).count 32 = 0 := List.count_eq_zero.2 (itoa_no b)
  unfold lineN
  rcases has_four op with e | e | e | e
  · rw [e]; simp [hn]
  · rw [e]; simp [hn, ha]
  · rw [e]; simp [hn, ha, hb]
  · exact absurd e h
theorem has4 (op : Int) : hasN op = 4 ↔ op = 4 ∨ op = 7 := by
  constructor
  · intro h
    by_cases h4 : op = 4
    · exact .inl h4
    by_cases h7 : op = 7
    · exact .inr h7
    exfalso
    revert h
    unfold hasN
    by_cases h1 : op = 1
    · rw [if_pos h1]
      decide
    rw [if_neg h1]
    by_cases h2 : op = 2
    · rw [if_pos h2]
      decide
    rw [if_neg h2]
    by_cases h3 : op = 3
    · rw [if_pos h3]
      decide
    rw [if_neg h3]
    rw [if_neg h4]
    by_cases h5 : op = 5
    · rw [if_pos h5]
      decide
    rw [if_neg h5]
    by_cases h6 : op = 6
    · rw [if_pos h6]
      decide
    rw [if_neg h6]
    rw [if_neg h7]
    by_cases h11 : op = 11
    · rw [if_pos h11]
      decide
    rw [if_neg h11]
    by_cases h12 : op = 12
    · rw [if_pos h12]
      decide
    rw [if_neg h12]
    by_cases h16 : op = 16
    · rw [if_pos h16]
      decide
    rw [if_neg h16]
    by_cases h17 : op = 17
    · rw [if_pos h17]
      decide
    rw [if_neg h17]
    by_cases h18 : op = 18
    · rw [if_pos h18]
      decide
    rw [if_neg h18]
    by_cases h19 : op = 19
    · rw [if_pos h19]
      decide
    rw [if_neg h19]
    by_cases h20 : op = 20
    · rw [if_pos h20]
      decide
    rw [if_neg h20]
    by_cases h22 : op = 22
    · rw [if_pos h22]
      decide
    rw [if_neg h22]
    decide
  · rintro (rfl | rfl) <;> rfl
theorem ins_len (x : Ins) : (insB x).length = if hasN x.o = 4 then 2 + x.s.size else if hasN x.o = 0 then 1 else if hasN x.o = 1 then 9 else 17 := by
  have h8 : ∀ a, (bytes8 a).length = 8 := fun a => rfl
  have hl := strI_length x.s
  unfold insB
  rcases has_four x.o with e | e | e | e <;> rw [e] <;> simp [h8, hl]
  omega

theorem count_next32 {l : List UInt8} {k : Nat} {c : UInt8} (h : l[k]? = some c) : (l.take (k + 1)).count 32 = (l.take k).count 32 + if c.toNat = 32 then 1 else 0 := by
  rw [List.take_add_one, List.count_append, h]
  by_cases h10 : c.toNat = 32
  · obtain rfl : c = 32 := UInt8.toNat_inj.1 h10
    rfl
  · rw [if_neg h10]
    have : c ≠ 32 := fun e => h10 (by rw [e]; rfl)
    simp [this]
theorem ins60 {x : Ins} (h : x.s.size ≤ 50) : (insB x).length ≤ 60 := by
  rw [ins_len]
  split
  · omega
  · split
    · omega
    · split <;> omega
theorem flat60 (L : List Ins) (h : ∀ x ∈ L, x.s.size ≤ 50) : (L.flatMap insB).length ≤ L.length * 60 := by
  induction L with
  | nil => exact Nat.zero_le _
  | cons a l ih =>
    have h1 := ih fun x hx => h x (by simp [hx])
    have h2 := ins60 (h a (by simp))
    rw [List.flatMap_cons, List.length_append, List.length_cons, Nat.succ_mul]
    omega

set_option maxRecDepth 100000 in
set_option maxHeartbeats 8000000 in
theorem long_walk (I : Option Addr) (c : Nat) (L : List Ins) (E : Option Addr) (d : Nat) (Z : List Int) (hL : L.length ≤ 9223372036854775807) (hZd : Z.length ≤ d) (hd : d ≤ 9223372036854775807) (hok : ∀ x ∈ L, InsR x) (hzo : ∀ a ∈ Z, -9223372036854775808 ≤ a ∧ a ≤ 9223372036854775807) (w : World) (hw : CodeW w) (hI : RdI w I L) (hE : RdZ w E Z) :
    Calls Tryd.prog 14 #[.agg #[.slice I L.length c, .slice E Z.length d]] w fun e w' => e = .returned (.bool true) ∧ Keeps (fun _ => False) w w' := by
  have HW := Lib.hid hw
  have HI := Lib.hid hI
  have HE := Lib.hid hE
  obtain ⟨M, hM⟩ : ∃ M, M = (L.take 40).map Ins.few := ⟨_, rfl⟩
  obtain ⟨Y, hY⟩ : ∃ Y, Y = Z.take (min Z.length 8) := ⟨_, rfl⟩
  have hMl : M.length = min L.length 40 := by rw [hM, List.length_map, List.length_take]; omega
  have hYl : Y.length = min Z.length 8 := by rw [hY, List.length_take]; omega
  have hMok : ∀ x ∈ M, InsR x ∧ x.s.size ≤ 50 := fun x hx => by
    rw [hM] at hx
    obtain ⟨y, hy, rfl⟩ := List.mem_map.1 hx
    exact ⟨hok y (List.mem_of_mem_take hy), few_size2 y⟩
  have hYok : ∀ a ∈ Y, -9223372036854775808 ≤ a ∧ a ≤ 9223372036854775807 := fun a ha => hzo a (List.mem_of_mem_take (by rw [hY] at ha; exact ha))
  have hEY : RdZ w E Y := fun h0 => by
    obtain ⟨b, off, e, hc⟩ := hE (by omega)
    refine ⟨b, off, e, fun k hk => ?_⟩
    have h1 := hc k (by omega)
    have : Y.getD k 0 = Z.getD k 0 := by rw [hY]; show (Z.take _)[k]?.getD 0 = Z[k]?.getD 0; rw [List.getElem?_take, if_pos (by omega)]
    rw [this]
    exact h1
  have SC : Hid (∀ o, Calls Tryd.prog 25 #[] (w.alloc o) fun e w' => e = .returned (.bool true) ∧ Keeps (fun _ => False) (w.alloc o) w') := Lib.hid fun o => shown8_any _ (HW.out.keep ((Keeps.refl _ _).alloc _))
  have FC : Hid (∀ w1, Keeps (fun _ => False) w w1 → Calls Tryd.prog 26 #[.agg #[.slice I L.length c, .slice E Z.length d]] w1 fun e w' => (∃ A c', e = .returned (.agg #[.slice A M.length c', .slice E Y.length d]) ∧ w'.ownsRow 0 52 4 (.slice A M.length c') M.length (flatI M) ∧ (∀ g, (Value.slice A M.length c').ownBlock = some g → w1.heap.size ≤ g)) ∧ Keeps (fun _ => False) w1 w') := by
    rw [hMl, hYl, hM]
    exact Lib.hid fun w1 k => few_any I c L E Z.length d hZd hd hL w1 (HI.out.keep k)
  obtain ⟨q, hq⟩ : ∃ q, q = M.length := ⟨_, rfl⟩
  obtain ⟨me, hme⟩ : ∃ me, me = Y.length := ⟨_, rfl⟩
  obtain ⟨nL, hnL⟩ : ∃ n, n = L.length := ⟨_, rfl⟩
  obtain ⟨nZ, hnZ⟩ : ∃ n, n = Z.length := ⟨_, rfl⟩
  have hq40 : q ≤ 40 := by omega
  have hme8 : me ≤ 8 := by omega
  rw [← hq, ← hme, ← hnL, ← hnZ] at FC
  rw [← hnL, ← hnZ]
  have HQ := Lib.hid hq
  have HME := Lib.hid hme
  have HMOK := Lib.hid hMok
  have HYOK := Lib.hid hYok
  have HEY := Lib.hid hEY
  clear hw hI hE hM hY hMl hYl hMok hYok hEY hq hme hnL hnZ hok hzo hL hZd hd
  go_enter Tryd.func14, Tryd.ntmps14
  go_wp2_with fail
  refine (SC.out _).mono ?_
  rintro e w1 ⟨rfl, k1⟩
  obtain ⟨p0, p1, p2, p3⟩ := two_new w (.slice I nL c) (.slice E nZ d) 41 rfl
  have hz : (w.alloc (.cells #[.slice I nL c, .slice E nZ d] 41)).heap.size = w.heap.size + 1 := by simp
  have c0 := (k1.cell (b := w.heap.size) (o := 0) (by omega) (fun h => h)).trans p0
  have c1 := (k1.cell (b := w.heap.size) (o := 1) (by omega) (fun h => h)).trans p1
  have f0 := (k1.frozen (b := w.heap.size) (o := 0) (by omega) (fun h => h)).trans p2
  have f1 := (k1.frozen (b := w.heap.size) (o := 1) (by omega) (fun h => h)).trans p3
  have kw1 : Keeps (fun _ => False) w w1 := ((Keeps.refl _ _).alloc _).trans k1 (fun _ _ h => h)
  obtain ⟨pn, hpn⟩ : ∃ pn, pn = w.heap.size := ⟨_, rfl⟩
  rw [← hpn] at c0 c1 f0 f1 ⊢
  have HPN := Lib.hid hpn
  have FC1 := Lib.hid (FC.out w1 kw1)
  have K1 := Lib.hid kw1
  have hpb := cell_ltk c0
  clear p0 p1 p2 p3 hz k1 kw1 hpn SC FC
  go_wp2_with fail
  refine FC1.out.mono ?_
  rintro e w2 ⟨⟨A, c', rfl, o2, b2⟩, k2⟩
  have d0 := (k2.cell hpb (fun h => h)).trans c0
  have d1 := (k2.cell hpb (fun h => h)).trans c1
  have g0 := (k2.frozen hpb (fun h => h)).trans f0
  have g1 := (k2.frozen hpb (fun h => h)).trans f1
  have hfin : Keeps (fun _ => False) w ((w2.setCell ⟨pn, 0, none⟩ (.slice A q c')).setCell ⟨pn, 1, none⟩ (.slice E me d)) := by
    have hp : ∀ i : Nat, (⟨pn, i, none⟩ : Addr).block < w.heap.size → False := fun i h => by have h : pn < w.heap.size := h; have := HPN.out; omega
    exact ((K1.out.trans k2 (fun _ _ h => h)).setCell (p := ⟨pn, 0, none⟩) (hp 0) _).setCell (p := ⟨pn, 1, none⟩) (hp 1) _
  have hown : ((w2.setCell ⟨pn, 0, none⟩ (.slice A q c')).setCell ⟨pn, 1, none⟩ (.slice E me d)).ownsRow 0 52 4 (.slice A q c') q (flatI M) := by
    have hb : ∀ k, (Value.slice A q c').ownBlock = some k → k ≠ pn := fun k hk => by have := b2 k hk; omega
    exact ownsRow_keep (ownsRow_keep o2 (fun k hk => Below.heap_setCell _ _ _ k (fun e => hb k hk e))) (fun k hk => Below.heap_setCell _ _ _ k (fun e => hb k hk e))
  have K2 := Lib.hid hfin
  have HOWN := Lib.hid hown
  have e0 : ((w2.setCell ⟨pn, 0, none⟩ (.slice A q c')).setCell ⟨pn, 1, none⟩ (.slice E me d)).cell? ⟨pn, 0, none⟩ = some (.slice A q c') := (cell_other _ 1 0 _ (.inl (by omega))).trans (cell_same _ _ _ _ _ d0)
  have e1 : ((w2.setCell ⟨pn, 0, none⟩ (.slice A q c')).setCell ⟨pn, 1, none⟩ (.slice E me d)).cell? ⟨pn, 1, none⟩ = some (.slice E me d) := cell_same _ _ _ _ _ ((cell_other _ 0 1 _ (.inl (by omega))).trans d1)
  have HE0 := Lib.hid e0
  have HE1 := Lib.hid e1
  have hp2 := cell_ltk d0
  clear o2 b2 k2 hfin hown e0 e1 c0 c1 f0 f1 FC1 hpb
  go_upto_region 3 with fail
  generalize hw3 : (w2.setCell _ _).setCell _ _ = w3
  rw [hw3] at HE0 HE1 K2 HOWN
  have RI3 := Lib.hid (own_rdI HOWN.out HQ.out)
  have PC := put_code A c' M E d Y (by rw [← HQ.out]; omega) (by rw [← HME.out]; omega) (fun x hx => by obtain ⟨h1, h2⟩ := HMOK.out x hx; exact ⟨h1.1, h1.2.1, by omega⟩) HYOK.out w3 (HW.out.keep K2.out) RI3.out (HEY.out.keep K2.out)
  rw [← HQ.out, ← HME.out] at PC
  have HPC := Lib.hid PC
  have e0 := HE0.out
  have e1 := HE1.out
  have hp3 := cell_ltk e0
  have HP3 := Lib.hid hp3
  clear hw3 PC d0 d1 g0 g1 hp2 HE0 HE1
  go_wp2_with fail
  refine HPC.out.mono ?_
  rintro e w4 ⟨hput, k4⟩
  have K4 := Lib.hid (K2.out.trans k4 (fun _ _ h => h))
  have f0 := (k4.cell hp3 (fun h => h)).trans e0
  have f1 := (k4.cell hp3 (fun h => h)).trans e1
  have RI4 := Lib.hid (RI3.out.keep k4)
  clear e0 e1 k4 HPC
  have hcase : (∃ er : Nat, (er = 4 ∨ er = 1) ∧ e = .returned (.tuple #[.slice none 0 0, .int .i64 (er : Int)])) ∨ (∃ v, e = .returned (.tuple #[v, .int .i64 0]) ∧ OutB w4 v (putB M Y)) := by
    by_cases h1 : 1200 < M.length ∨ 6 < Y.length
    · rw [if_pos h1] at hput
      exact .inl ⟨4, .inl rfl, hput⟩
    · rw [if_neg h1] at hput
      by_cases h2 : (∃ x ∈ M, mayI x = false) ∨ (∃ a ∈ Y, a < 0 ∨ (M.length : Int) < a)
      · rw [if_pos h2] at hput
        exact .inl ⟨1, .inr rfl, hput⟩
      · rw [if_neg h2] at hput
        obtain ⟨v, h3, h4, _⟩ := hput
        exact .inr ⟨v, h3, h4⟩
  clear hput
  rcases hcase with ⟨er, her, rfl⟩ | ⟨v, rfl, ob⟩
  · rcases her with rfl | rfl
    · go_wp2
      go_ret
      exact ⟨rfl, K4.out⟩
    · go_wp2
      go_ret
      exact ⟨rfl, K4.out⟩
  · have hplen : (putB M Y).length = 9 + 8 * me + (M.flatMap insB).length := by
      have h8 : ∀ (l : List Int), (l.flatMap bytes8).length = l.length * 8 := fun l => by
        induction l with
        | nil => rfl
        | cons a l ih => rw [List.flatMap_cons, List.length_append, ih, List.length_cons, show (bytes8 a).length = 8 from rfl]; omega
      unfold putB
      rw [List.length_append, List.length_append, List.length_append, h8, ← HME.out]
      show 1 + me * 8 + 8 + _ = _
      omega
    obtain ⟨G, cG, rfl⟩ := own_formk ob
    have hG : ∃ g, G = some ⟨g, 0, none⟩ := by
      rcases ob.2 with ⟨_, h1⟩ | ⟨g, cap, cur, e1, _⟩
      · omega
      · simp only [Value.slice.injEq] at e1
        exact ⟨g, e1.1⟩
    obtain ⟨g, rfl⟩ := hG
    have hb0 : w4.cell? ⟨g, 0, none⟩ = some (.int .u8 (me : Int)) := by
      have h := World.ownsRow.cellAt ob 0 (by omega)
      rw [h]
      unfold putB
      rw [← HME.out, show (me : Int) % 256 = me by omega]
      rfl
    obtain ⟨PL, hPL⟩ : ∃ PL, PL = (putB M Y).length := ⟨_, rfl⟩
    rw [← hPL] at hplen ⊢
    have hflat : (M.flatMap insB).length ≤ 40 * 60 := by
      have h1 := flat60 M fun x hx => (HMOK.out x hx).2
      have h2 : M.length * 60 ≤ 40 * 60 := Nat.mul_le_mul_right _ (by rw [← HQ.out]; exact hq40)
      omega
    have HPL := Lib.hid hplen
    have HB0 := Lib.hid hb0
    have HFL := Lib.hid hflat
    have hp4 := cell_ltk f0
    have HF0 := Lib.hid f0
    have HF1 := Lib.hid f1
    have HP4 := Lib.hid hp4
    clear ob hPL hplen hb0 hflat
    go_wp2_with fail
    go_loopw [6, 7] (fun s6 s7 wr => ∃ (i nn : Nat), i ≤ q ∧ s7 = .int .i64 i ∧ s6 = .int .i64 nn ∧ nn = 9 + 8 * me + ((M.take i).flatMap insB).length ∧ Keeps (fun _ => False) w4 wr) (fun _ s7 _ => q + 1 - (intOf s7).toNat)
    case atStart => exact ⟨0, 9 + 8 * me, Nat.zero_le _, rfl, by go_num, by simp, Keeps.refl _ _⟩
    case round =>
      obtain ⟨i, nn, hi, rfl, rfl, hnn, kr⟩ := hrel
      have hn9 : nn ≤ 3000 := by
        have h1 := flat60 (M.take i) (fun x hx => (HMOK.out x (List.mem_of_mem_take hx)).2)
        have h2 : (M.take i).length * 60 ≤ 40 * 60 := Nat.mul_le_mul_right _ (by rw [List.length_take]; omega)
        omega
      have KR := Lib.hid kr
      have f0 := (kr.cell HP4.out (fun h => h)).trans HF0.out
      have f1 := (kr.cell HP4.out (fun h => h)).trans HF1.out
      have hpw := cell_ltk f0
      have HNN := Lib.hid hnn
      clear kr hnn
      by_cases h1 : i < q
      · have h1I : (i : Int) < (q : Int) := by omega
        have h1d : decide ((i : Int) < (q : Int)) = true := decide_eq_true h1I
        have hi0 : (0 : Int) ≤ (i : Int) := by omega
        obtain ⟨bi, oi, rfl, hbi, hci⟩ := RI4.out.cellsAt (i := i) (by rw [← HQ.out]; exact h1)
        obtain ⟨x, hx⟩ : ∃ x : Ins, x = M.getD i default := ⟨_, rfl⟩
        have hml : i < M.length := by rw [← HQ.out]; exact h1
        have hxm : x ∈ M := by rw [hx]; simp [List.getD, hml]
        obtain ⟨⟨r0, r1, r2, r3, r4, r5⟩, hs50⟩ := HMOK.out x hxm
        rw [← hx] at hci
        obtain ⟨d0, d1, d2, d3⟩ := hci wr (KR.out.block bi hbi (fun h => h))
        have hbi2 := cell_ltk d0
        have hT : ((M.take (i + 1)).flatMap insB).length = ((M.take i).flatMap insB).length + (insB x).length := by
          rw [List.take_succ_eq_append_getElem hml, List.flatMap_append, List.length_append, hx]
          simp [List.getD, hml]
        have hnx : nn + (insB x).length = 9 + 8 * me + ((M.take (i + 1)).flatMap insB).length := by rw [hT, HNN.out]; omega
        have LC := Lib.hid (cline_any x.o x.a x.b x.s r0 r1 r2 r3 r4 r5 (by omega) wr (HW.out.keep (K4.out.trans KR.out (fun _ _ h => h))))
        have hlb := line_blanks x.o x.a x.b x.s.data.toList
        have hil := ins_len x
        have h47 := has4 x.o
        have hll : (lineN x.o x.a x.b x.s.data.toList).length ≤ 101 := by
          have q1 := name_le x.o
          have q2 := Lib.itoa_length_le x.a r2 r3
          have q3 := Lib.itoa_length_le x.b r4 r5
          have q4 : x.s.data.toList.length ≤ 50 := by rw [len_size]; exact hs50
          unfold lineN
          rcases has_four x.o with e | e | e | e <;> rw [e] <;> simp <;> simp at q4 <;> omega
        obtain ⟨T, hTT⟩ : ∃ T : ByteArray, T = ofL (lineN x.o x.a x.b x.s.data.toList) := ⟨_, rfl⟩
        have hTl : T.data.toList = lineN x.o x.a x.b x.s.data.toList := by rw [hTT, ofL_list]
        have hTs : T.size ≤ 101 := by rw [← len_size, hTl]; exact hll
        rw [← hTT] at LC
        rw [← hTl] at hlb
        have HLB := Lib.hid hlb
        have HIL := Lib.hid hil
        have H47 := Lib.hid h47
        have HNX := Lib.hid hnx
        clear hci hx hml hxm hT hnx hlb hil h47 hll hTT hTl r0 r1 r2 r3 r4 r5
        go_wp2_with fail
        refine LC.out.mono ?_
        rintro e w6 ⟨rfl, k6⟩
        have K6 := Lib.hid (KR.out.trans k6 (fun _ _ h => h))
        have d0 := (k6.cell hbi2 (fun h => h)).trans d0
        have d3 := (k6.cell hbi2 (fun h => h)).trans d3
        have f0 := (k6.cell hpw (fun h => h)).trans f0
        have f1 := (k6.cell hpw (fun h => h)).trans f1
        clear k6 LC d1 d2
        go_wp2_with fail
        go_loopw [8, 10] (fun s8 s10 wx => ∃ (j n : Nat), j ≤ T.size ∧ s10 = .int .i64 j ∧ s8 = .int .i64 n ∧ n = 1 + (T.data.toList.take j).count 32 ∧ wx = w6) (fun _ s10 _ => T.size + 1 - (intOf s10).toNat)
        case atStart => exact ⟨0, 1, Nat.zero_le _, rfl, rfl, by simp, rfl⟩
        case round =>
          obtain ⟨j, n, hj, rfl, rfl, hnj, hw⟩ := hrel
          obtain rfl : w6 = _ := hw.symm
          have hn2 : n ≤ 102 := by
            have h1 := List.count_le_length (a := (32 : UInt8)) (l := T.data.toList.take j)
            rw [List.length_take] at h1
            omega
          have HNJ := Lib.hid hnj
          clear hw hnj
          by_cases hjT : j < T.size
          · have hjI : (j : Int) < (T.size : Int) := by omega
            have hjd : decide ((j : Int) < (T.size : Int)) = true := decide_eq_true hjI
            have hj0 : (0 : Int) ≤ (j : Int) := by omega
            have hc := count_next32 (at_byte T j hjT)
            by_cases h32 : T[j].toNat = 32
            · have q32 : ((T[j].toNat : Int) == 32) = true := by simp; omega
              rw [if_pos h32] at hc
              have H := Lib.hid (show n + 1 = 1 + (T.data.toList.take (j + 1)).count 32 by rw [hc, HNJ.out]; omega)
              have H32 := Lib.hid h32
              clear hc h32
              go_wp2
              go_roundw
              case rel => exact ⟨j + 1, n + 1, by omega, by go_num, by go_num, H.out, by first | rfl | trivial⟩
              case measure => simp [intOf]; omega
            · have q32 : ((T[j].toNat : Int) == 32) = false := by simp; omega
              rw [if_neg h32] at hc
              have H := Lib.hid (show n = 1 + (T.data.toList.take (j + 1)).count 32 by rw [hc, HNJ.out]; omega)
              clear hc h32
              go_wp2
              go_roundw
              case rel => exact ⟨j + 1, n, by omega, by go_num, by first | rfl | go_num, H.out, by first | rfl | trivial⟩
              case measure => simp [intOf]; omega
          · have hjd : decide ((j : Int) < (T.size : Int)) = false := decide_eq_false (by omega)
            have htk : T.data.toList.take j = T.data.toList := List.take_of_length_le (by rw [len_size]; omega)
            have hnw : n = 1 + T.data.toList.count 32 := by rw [HNJ.out, htk]
            have HNW := Lib.hid hnw
            clear htk hnw
            by_cases ho4 : hasN x.o = 4
            · have hfin : nn + (2 + x.s.size) = 9 + 8 * me + ((M.take (i + 1)).flatMap insB).length := by rw [← HNX.out, HIL.out, if_pos ho4]
              have HFIN := Lib.hid hfin
              rcases H47.out.1 ho4 with h | h
              · have q4 : (x.o == 4) = true := by simp [h]
                clear hfin ho4 h
                go_wp2
                go_roundw
                case rel => exact ⟨i + 1, nn + (2 + x.s.size), by omega, by go_num, by go_num, HFIN.out, K6.out⟩
                case measure => simp [intOf]; omega
              · have q4 : (x.o == 4) = false := by simp [h]
                have q7 : (x.o == 7) = true := by simp [h]
                clear hfin ho4 h
                go_wp2
                go_roundw
                case rel => exact ⟨i + 1, nn + (2 + x.s.size), by omega, by go_num, by go_num, HFIN.out, K6.out⟩
                case measure => simp [intOf]; omega
            · have q4 : (x.o == 4) = false := by simp; intro h; exact ho4 (H47.out.2 (.inl h))
              have q7 : (x.o == 7) = false := by simp; intro h; exact ho4 (H47.out.2 (.inr h))
              have hfin : ∃ k, n = 1 + k ∧ k ≤ 2 ∧ nn + (1 + 8 * k) = 9 + 8 * me + ((M.take (i + 1)).flatMap insB).length := by
                have h1 := HLB.out ho4
                refine ⟨T.data.toList.count 32, HNW.out, by rw [h1]; split; omega; split <;> omega, ?_⟩
                rw [← HNX.out, HIL.out, if_neg ho4, h1]
                rcases has_four x.o with e | e | e | e
                · rw [e]; simp
                · rw [e]; simp
                · rw [e]; simp
                · exact absurd e ho4
              obtain ⟨k, hk1, hk2, hk3⟩ := hfin
              subst hk1
              have HFIN := Lib.hid hk3
              clear ho4 hk3
              go_wp2
              go_roundw
              case rel => exact ⟨i + 1, nn + (1 + 8 * k), by omega, by go_num, by go_num, HFIN.out, K6.out⟩
              case measure => simp [intOf]; omega
      · obtain rfl : i = q := by omega
        have h1d : decide ((i : Int) < (i : Int)) = false := decide_eq_false (by omega)
        have hne : nn = PL := by rw [HNN.out, HPL.out, List.take_of_length_le (by rw [← HQ.out]; exact Nat.le_refl _)]
        subst hne
        have b0 := (KR.out.cell (cell_ltk HB0.out) (fun h => h)).trans HB0.out
        have hpl0 : (0 : Int) < (nn : Int) := by have := HPL.out; omega
        have qq : ((nn : Int) == (nn : Int)) = true := by simp
        have qm : ((me : Int) == (me : Int)) = true := by simp
        have K9 := Lib.hid (K4.out.trans KR.out (fun _ _ h => h))
        go_wp2_with fail
        go_quiet (fail)
        have K10 := Lib.hid (K9.out.trans (drew_keeps wr nq) (fun _ _ h => h))
        go_wp2
        go_ret
        exact ⟨rfl, K10.out⟩

end Go.Proofs.YtoombjbpblighaaDoor
