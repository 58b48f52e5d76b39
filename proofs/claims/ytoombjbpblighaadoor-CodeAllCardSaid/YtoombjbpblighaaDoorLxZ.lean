/-
  Layer 1: the walk of LexAgain. Written by an AI agent.
-/
import Derived.Test.YtoombjbpblighaaDoorLxYa
import Derived.BigQuiet
namespace Go.Proofs.YtoombjbpblighaaDoor
open Go.RowKit Go.Shelf
set_option linter.unusedVariables false
set_option linter.unusedSimpArgs false

theorem said_le (k : Nat) (l : List UInt8) : (saidL k l).length ≤ l.length := by
  unfold saidL
  split
  · rw [List.length_drop, List.length_take]; omega
  · exact Nat.le_refl _
theorem text_le (l : List UInt8) (p : Nat) : ∀ t ∈ (lexL l p).1, t.x.length ≤ l.length := by
  refine lexL_ind (P := fun l p => ∀ t ∈ (lexL l p).1, t.x.length ≤ l.length) ?_ ?_ ?_ ?_ ?_ ?_ l p
  · intro p t ht
    rw [lexL_nil, List.mem_singleton] at ht
    rw [ht]
    exact Nat.le_refl _
  · intro c r p h ih t ht
    rw [lexL_blank h] at ht
    have := ih t ht
    rw [List.length_cons]
    omega
  · intro c r p h h1 h2 t ht
    rw [lexL_rem_end h h1 h2, List.mem_singleton] at ht
    rw [ht]
    exact Nat.zero_le _
  · intro c r p h h1 h2 ih t ht
    rw [lexL_rem h h1 h2] at ht
    have := ih t ht
    rw [List.length_drop] at this
    omega
  · intro c r p h h1 h2 t ht
    rw [lexL_bad h h1 h2] at ht
    cases ht
  · intro c r p h h1 h2 ih t ht
    rw [lexL_tok h h1 h2] at ht
    rcases List.mem_cons.1 ht with rfl | ht
    · have h3 := said_le (firstL (c :: r)).1 ((c :: r).take (firstL (c :: r)).2.1)
      rw [List.length_take] at h3
      show (saidL _ _).length ≤ _
      omega
    · have := ih t ht
      rw [List.length_drop] at this
      omega
theorem join_le (B : Nat) (ts : List Tok) (h : ∀ t ∈ ts, t.x.length ≤ B) : (joinT ts).length ≤ ts.length * (B + 3) := by
  induction ts with
  | nil => exact Nat.zero_le _
  | cons t ts ih =>
    have h1 := ih fun t ht => h t (by simp [ht])
    have h2 := h t (by simp)
    have h3 : (tokB t).length ≤ B + 2 := by
      unfold tokB
      split
      · simp; omega
      · omega
    show (32 :: (tokB t ++ joinT ts)).length ≤ _
    rw [List.length_cons, List.length_append, List.length_cons, Nat.succ_mul]
    omega
theorem join_next {ts : List Tok} {i : Nat} (h : i < ts.length) : joinT (ts.take (i + 1)) = joinT (ts.take i) ++ 32 :: tokB (ts.getD i default) := by
  rw [List.take_succ_eq_append_getElem h, join_append]
  congr 1
  have : ts.getD i default = ts[i] := by simp [List.getD, h]
  rw [this]
  show 32 :: (tokB ts[i] ++ []) = _
  rw [List.append_nil]

set_option maxHeartbeats 2000000 in
theorem all_huge (s : ByteArray) (hb : 600 < s.size) (hs : s.size ≤ 1000000) (w : World) :
    Calls Tryd.prog 17 #[.string s] w fun e w' => e = .returned (.tuple #[.slice none 0 0, .int .i64 0, .int .i64 4]) ∧ w' = w := by
  have hbigI : (600 : Int) < (s.size : Int) := by omega
  have hd : decide ((600 : Int) < (s.size : Int)) = true := decide_eq_true hbigI
  clear hb
  go_enter Tryd.func17, Tryd.ntmps17
  go_wp2
  go_step3
  go_wp2
  rw [Exit.noGoto_ret]
  go_ret3
  exact ⟨rfl, rfl⟩

theorem getD_same {ms ts : List Tok} (h : ms.map (fun t => (t.k, t.x)) = ts.map (fun t => (t.k, t.x))) {i : Nat} (hi : i < ts.length) : (ms.getD i default).k = (ts.getD i default).k ∧ (ms.getD i default).x = (ts.getD i default).x := by
  have hl : ms.length = ts.length := by have := congrArg List.length h; rwa [List.length_map, List.length_map] at this
  have h2 := congrArg (fun z => z[i]?) h
  simp only [List.getElem?_map] at h2
  rw [List.getElem?_eq_getElem (by omega), List.getElem?_eq_getElem hi] at h2
  simp only [Option.map_some, Option.some.injEq, Prod.mk.injEq] at h2
  have e1 : ms.getD i default = ms[i] := by simp [List.getD, show i < ms.length by omega]
  have e2 : ts.getD i default = ts[i] := by simp [List.getD, hi]
  rw [e1, e2]
  exact h2

set_option maxRecDepth 100000 in
set_option maxHeartbeats 8000000 in
theorem again_walk (s0 : ByteArray) (w : World) (he : ErrW w) :
    Calls Tryd.prog 5 #[.string s0] w fun e w' => e = .returned (.bool true) ∧ Keeps (fun _ => False) w w' := by
  have SC := Lib.hid (shown_any w he)
  have HC := Lib.hid (fun w => short_any s0 w)
  have HE := Lib.hid he
  clear he
  go_enter Tryd.func5, Tryd.ntmps5
  go_wp2_with fail
  refine SC.out.mono ?_
  rintro e w1 ⟨rfl, k1⟩
  have HE1 := Lib.hid (HE.out.keep k1)
  have K1 := Lib.hid k1
  have HC1 := Lib.hid (HC.out w1)
  clear k1 SC HE HC
  go_wp2_with fail
  refine HC1.out.mono ?_
  rintro e w2 ⟨⟨s, hs, rfl⟩, hw⟩
  obtain rfl : w1 = w2 := hw.symm
  clear hw HC1
  have hcase : (∃ q er : Nat, er ≠ 0 ∧ Hid (Calls Tryd.prog 17 #[.string s] w1 fun e w' => e = .returned (.tuple #[.slice none 0 0, .int .i64 (q : Int), .int .i64 (er : Int)]) ∧ Keeps (fun _ => False) w1 w')) ∨ (s.size ≤ 600 ∧ (lexL s.data.toList 0).2 = none) := by
    by_cases hb : 600 < s.size
    · exact .inl ⟨0, 4, by decide, Lib.hid (all_big s hb (by omega) w1 HE1.out)⟩
    · cases hl : (lexL s.data.toList 0).2 with
      | none => exact .inr ⟨by omega, rfl⟩
      | some qe =>
        obtain ⟨q, er⟩ := qe
        have hc := (lexL_cut s.data.toList 0 q er hl).2.2.2
        exact .inl ⟨q, er, by omega, Lib.hid (all_bad s (by omega) q er hl w1 HE1.out)⟩
  rcases hcase with ⟨q, er, her, AC⟩ | ⟨hs6, hl2⟩
  · have her0 : ((er : Int) == 0) = false := by simp; omega
    go_wp2_with fail
    refine AC.out.mono ?_
    rintro e w3 ⟨rfl, k3⟩
    have K3 := Lib.hid (K1.out.trans k3 (fun _ _ h => h))
    clear k3 AC
    go_wp2
    go_ret
    exact ⟨rfl, K3.out⟩
  · obtain ⟨ini, hini, hgood⟩ := lexL_good s.data.toList 0 hl2
    obtain ⟨ts, hts⟩ : ∃ ts, ts = (lexL s.data.toList 0).1 := ⟨_, rfl⟩
    have hlx : lexL s.data.toList 0 = (ts, none) := by rw [hts, ← hl2]
    rw [← hts] at hini
    have hN : ts.length ≤ 601 := by
      have := tokens_le s.data.toList 0
      rw [← hts, len_size] at this
      omega
    have htx : ∀ t ∈ ts, t.x.length ≤ 600 := fun t ht => by
      have := text_le s.data.toList 0 t (by rw [← hts]; exact ht)
      rw [len_size] at this
      omega
    obtain ⟨N, hNi⟩ : ∃ N, N = ini.length := ⟨_, rfl⟩
    have hN1 : ts.length = N + 1 := by rw [hini, List.length_append, hNi]; rfl
    have hget : ∀ i, i < N → ts.getD i default = ini.getD i default ∧ (ini.getD i default).x.length ≤ 600 := fun i hi => by
      have e1 : ts.getD i default = ini.getD i default := by rw [hini]; show (ini ++ _)[i]?.getD default = ini[i]?.getD default; rw [List.getElem?_append_left (by omega)]
      refine ⟨e1, ?_⟩
      rw [← e1]
      refine htx _ ?_
      simp [List.getD, show i < ts.length by omega]
    have hjl : ∀ i, i ≤ N → (joinT (ini.take i)).length ≤ 362403 := fun i hi => by
      have h1 := join_le 600 (ini.take i) (fun t ht => htx t (by rw [hini]; exact List.mem_append_left _ (List.mem_of_mem_take ht)))
      have h2 : (ini.take i).length ≤ 601 := by rw [List.length_take]; omega
      have h3 := Nat.mul_le_mul_right (600 + 3) h2
      omega
    have hnext : ∀ i, i < N → joinT (ini.take (i + 1)) = joinT (ini.take i) ++ 32 :: tokB (ini.getD i default) := fun i hi => join_next (by omega)
    have hjoin := lexL_join ini hgood 0
    have hmap : (lexL (joinT ini) 0).1.map (fun t => (t.k, t.x)) = ts.map (fun t => (t.k, t.x)) := by rw [hjoin.2, hini, List.map_append]; rfl
    have AC := Lib.hid (all_ok s hs6 ts hlx w1 HE1.out)
    have GT := Lib.hid hget
    have JL := Lib.hid hjl
    have NX := Lib.hid hnext
    have JN := Lib.hid hjoin.1
    have MP := Lib.hid hmap
    have N1 := Lib.hid hN1
    have TI := Lib.hid (show ini.take N = ini by rw [hNi]; exact List.take_length)
    rw [hN1] at AC hN
    clear hini hgood hts hlx hNi hN1 hget hjl hnext hjoin hmap hl2 htx
    go_wp2_with fail
    refine AC.out.mono ?_
    rintro e w3 ⟨A, c, rfl, hr, k3⟩
    have K3 := Lib.hid (K1.out.trans k3 (fun _ _ h => h))
    have HR3 := Lib.hid hr
    have HE3 := Lib.hid (HE1.out.keep k3)
    clear k3 AC hr
    go_wp2_with fail
    go_loopw [7, 8] (fun s7 s8 wr => ∃ (i : Nat) (g : ByteArray), i ≤ N ∧ s7 = .string g ∧ s8 = .int .i64 i ∧ g.data.toList = joinT (ini.take i) ∧ wr = w3) (fun _ s8 _ => N + 1 - (intOf s8).toNat)
    case atStart => exact ⟨0, _, by omega, rfl, rfl, rfl, rfl⟩
    case round =>
      obtain ⟨i, g, hi, rfl, rfl, hg, hw⟩ := hrel
      obtain rfl : w3 = wr := hw.symm
      have hgs : g.size ≤ 362403 := by rw [← len_size, hg]; exact JL.out i hi
      have HG := Lib.hid hg
      clear hg hw
      have sw : IntKind.i64.wrap (((N + 1 : Nat) : Int) - 1) = (N : Int) := by rw [IntWalk.i64_in _ (by omega)]; omega
      by_cases hiN : i < N
      · have hI : (i : Int) < (N : Int) := by omega
        have hdI : decide ((i : Int) < (N : Int)) = true := decide_eq_true hI
        have hI1 : (i : Int) < ((N + 1 : Nat) : Int) := by omega
        have hi0 : (0 : Int) ≤ (i : Int) := by omega
        obtain ⟨ba, oa, rfl, ha⟩ := HR3.out.cellsAt (i := i) (by rw [N1.out]; omega)
        obtain ⟨hup, hxl⟩ := GT.out i hiN
        have hnx := NX.out i hiN
        rw [hup] at ha
        obtain ⟨tk, htk⟩ : ∃ t : Tok, t = ini.getD i default := ⟨_, rfl⟩
        rw [← htk] at ha hxl hnx
        obtain ⟨tk, tx, tp⟩ := tk
        have a0 : w3.cell? ⟨ba, oa + i * 3, none⟩ = some (.int .i64 (tk : Int)) := (ha w3 (Keeps.refl _ _)).1
        have a1 : w3.cell? ⟨ba, oa + i * 3 + 1, none⟩ = some (.string (ofL tx)) := (ha w3 (Keeps.refl _ _)).2.1
        obtain ⟨T, hT⟩ : ∃ T : ByteArray, T = ofL tx := ⟨_, rfl⟩
        have hTl : T.data.toList = tx := by rw [hT]; exact ofL_list tx
        have hTs : T.size ≤ 600 := by rw [← len_size, hTl]; exact hxl
        rw [← hT] at a1
        clear ha htk hup hT hxl
        by_cases h2 : tk = 2
        · have q2 : ((tk : Int) == 2) = true := by simp; omega
          have HM : Hid ((g ++ { data := #[32, 34] } ++ T ++ { data := #[34] }).data.toList = joinT (ini.take (i + 1))) := by
            rw [hnx]
            unfold tokB
            rw [if_pos h2, app_list, app_list, app_list, HG.out, hTl]
            refine Lib.hid ?_
            show joinT (ini.take i) ++ [32, 34] ++ tx ++ [34] = joinT (ini.take i) ++ 32 :: 34 :: (tx ++ [34])
            simp
          clear hnx hTl h2
          go_wp2
          go_roundw
          case rel => exact ⟨i + 1, _, by omega, rfl, by go_num, HM.out, by first | rfl | trivial⟩
          case measure => simp [intOf]; omega
        · have q2 : ((tk : Int) == 2) = false := by simp; omega
          have HM : Hid ((g ++ { data := #[32] } ++ T).data.toList = joinT (ini.take (i + 1))) := by
            rw [hnx]
            unfold tokB
            rw [if_neg h2, app_list, app_list, HG.out, hTl]
            refine Lib.hid ?_
            show joinT (ini.take i) ++ [32] ++ tx = joinT (ini.take i) ++ 32 :: tx
            simp
          clear hnx hTl h2
          go_wp2
          go_roundw
          case rel => exact ⟨i + 1, _, by omega, rfl, by go_num, HM.out, by first | rfl | trivial⟩
          case measure => simp [intOf]; omega
      · obtain rfl : i = N := by omega
        have hI : ¬ (i : Int) < (i : Int) := by omega
        have hdI : decide ((i : Int) < (i : Int)) = false := decide_eq_false hI
        have hgl : g.data.toList = joinT ini := by rw [HG.out, TI.out]
        by_cases hb : 600 < g.size
        · have hbI : (600 : Int) < (g.size : Int) := by omega
          have hbd : decide ((600 : Int) < (g.size : Int)) = true := decide_eq_true hbI
          have GC := Lib.hid (all_huge g hb (by omega) w3)
          clear hgl
          go_wp2_with fail
          refine GC.out.mono ?_
          rintro e w4 ⟨rfl, hw⟩
          obtain rfl : w3 = w4 := hw.symm
          clear hw GC
          go_wp2
          go_ret
          exact ⟨rfl, K3.out⟩
        · have hbI : ¬ (600 : Int) < (g.size : Int) := by omega
          have hbd : decide ((600 : Int) < (g.size : Int)) = false := decide_eq_false hbI
          obtain ⟨ms, hms⟩ : ∃ ms, ms = (lexL (joinT ini) 0).1 := ⟨_, rfl⟩
          have hmp := MP.out
          rw [← hms] at hmp
          have hml : ms.length = i + 1 := by
            have := congrArg List.length hmp
            rw [List.length_map, List.length_map, N1.out] at this
            exact this
          have GC := Lib.hid (all_ok g (by omega) ms (by rw [hgl, hms, ← JN.out]) w3 HE3.out)
          have HMP := Lib.hid hmp
          have HML := Lib.hid hml
          rw [hml] at GC
          clear hgl hms hmp hml
          go_wp2_with fail
          refine GC.out.mono ?_
          rintro e w5 ⟨A5, c5, rfl, hr, k5⟩
          have K5 := Lib.hid (K3.out.trans k5 (fun _ _ h => h))
          have HR5 := Lib.hid hr
          have HL5 := Lib.hid (HR3.out.keep k5)
          clear k5 GC hr
          go_wp2_with fail
          go_loopw [12] (fun s12 wr => ∃ (j n : Nat), j ≤ i + 1 ∧ s12 = .int .i64 j ∧ wr = w5.drewN n) (fun s12 _ => i + 1 - (intOf s12).toNat)
          case atStart => exact ⟨0, 0, by omega, rfl, rfl⟩
          case round =>
            obtain ⟨j, n, hj, rfl, hw⟩ := hrel
            have kw : Keeps (fun _ => False) w5 wr := by rw [hw]; exact drew_keeps w5 n
            have HW := Lib.hid hw
            clear hw
            by_cases hjN : j < i + 1
            · have hJ : (j : Int) < ((i + 1 : Nat) : Int) := by omega
              have hj0 : (0 : Int) ≤ (j : Int) := by omega
              have hdj : decide ((j : Int) < ((i + 1 : Nat) : Int)) = true := decide_eq_true hJ
              obtain ⟨ba, oa, rfl, ha⟩ := HL5.out.cellsAt (i := j) (by rw [N1.out]; exact hjN)
              obtain ⟨bb, ob, rfl, hb⟩ := HR5.out.cellsAt (i := j) (by rw [HML.out]; exact hjN)
              obtain ⟨e1, e2⟩ := getD_same HMP.out (i := j) (by rw [N1.out]; exact hjN)
              rw [e1, e2] at hb
              obtain ⟨tk, htk⟩ : ∃ t : Nat, t = (ts.getD j default).k := ⟨_, rfl⟩
              obtain ⟨T, hT⟩ : ∃ T : ByteArray, T = ofL (ts.getD j default).x := ⟨_, rfl⟩
              rw [← htk, ← hT] at ha hb
              have b0 : wr.cell? ⟨bb, ob + j * 3, none⟩ = some (.int .i64 (tk : Int)) := (hb wr kw).1
              have b1 : wr.cell? ⟨bb, ob + j * 3 + 1, none⟩ = some (.string T) := (hb wr kw).2.1
              have a0 : wr.cell? ⟨ba, oa + j * 3, none⟩ = some (.int .i64 (tk : Int)) := (ha wr kw).1
              have a1 : wr.cell? ⟨ba, oa + j * 3 + 1, none⟩ = some (.string T) := (ha wr kw).2.1
              have q0 : ((tk : Int) != (tk : Int)) = false := by simp
              have q1 : (T.toList != T.toList) = false := by simp
              clear ha hb htk hT e1 e2
              go_wp2_with fail
              go_quiet (fail)
              go_wp2
              go_roundw
              case rel => exact ⟨j + 1, n + nq, by omega, by go_num, by rw [HW.out, World.drewN_drewN]⟩
              case measure => simp [intOf]; omega
            · have hJ : ¬ (j : Int) < ((i + 1 : Nat) : Int) := by omega
              have hdj : decide ((j : Int) < ((i + 1 : Nat) : Int)) = false := decide_eq_false hJ
              have K6 := Lib.hid (K5.out.trans kw (fun _ _ h => h))
              clear kw
              go_wp2
              go_ret
              exact ⟨rfl, K6.out⟩

end Go.Proofs.YtoombjbpblighaaDoor
