/-
  Layer 22: the walk of WordsVerbs. Written by an AI agent (wpe.py).
-/
import Derived.Test.YtoombjbpblighabDoorWpA
import Derived.Test.YtoombjbpblighabDoorWpD
namespace Go.Proofs.YtoombjbpblighabDoor
open Go Go.RowKit Go.Shelf
set_option linter.unusedVariables false
set_option linter.unusedSimpArgs false
set_option maxRecDepth 100000

theorem tabS (i : Nat) (h : i < 17) : (#[.string { data := #[115, 116, 101, 112] }, .string { data := #[98, 97, 99, 107] }, .string { data := #[115, 104, 111, 119] }, .string { data := #[108, 105, 115, 116] }, .string { data := #[103, 111] }, .string { data := #[105, 110, 112, 117, 116] }, .string { data := #[108, 105, 110, 101] }, .string { data := #[115, 119, 105, 116, 99, 104] }, .string { data := #[100, 105, 102, 102] }, .string { data := #[102, 105, 114, 115, 116] }, .string { data := #[112, 114, 117, 110, 101] }, .string { data := #[119, 97, 116, 99, 104] }, .string { data := #[114, 101, 110, 97, 109, 101] }, .string { data := #[114, 101, 98, 97, 115, 101] }, .string { data := #[116, 97, 107, 101] }, .string { data := #[115, 101, 116] }, .string { data := #[102, 111, 114, 107] }] : Array Value)[i]? = some (.string (ofL (verbsL.getD i []))) := by
  have : i = 0 ∨ i = 1 ∨ i = 2 ∨ i = 3 ∨ i = 4 ∨ i = 5 ∨ i = 6 ∨ i = 7 ∨ i = 8 ∨ i = 9 ∨ i = 10 ∨ i = 11 ∨ i = 12 ∨ i = 13 ∨ i = 14 ∨ i = 15 ∨ i = 16 := by omega
  rcases this with rfl | rfl | rfl | rfl | rfl | rfl | rfl | rfl | rfl | rfl | rfl | rfl | rfl | rfl | rfl | rfl | rfl <;> rfl
theorem tabI (i : Nat) (h : i < 17) : (#[.int .i64 0, .int .i64 0, .int .i64 0, .int .i64 0, .int .i64 1, .int .i64 1, .int .i64 1, .int .i64 1, .int .i64 1, .int .i64 1, .int .i64 1, .int .i64 1, .int .i64 2, .int .i64 2, .int .i64 2, .int .i64 2, .int .i64 3] : Array Value)[i]? = some (.int .i64 (countsL.getD i 0)) := by
  have : i = 0 ∨ i = 1 ∨ i = 2 ∨ i = 3 ∨ i = 4 ∨ i = 5 ∨ i = 6 ∨ i = 7 ∨ i = 8 ∨ i = 9 ∨ i = 10 ∨ i = 11 ∨ i = 12 ∨ i = 13 ∨ i = 14 ∨ i = 15 ∨ i = 16 := by omega
  rcases this with rfl | rfl | rfl | rfl | rfl | rfl | rfl | rfl | rfl | rfl | rfl | rfl | rfl | rfl | rfl | rfl | rfl <;> rfl
theorem read_made (l : List UInt8) (hl : l.length ≤ 9000) (w : World) (hw : WordW w) : Calls Tryd.prog 10 #[.string (ofL l)] w (ReadE l w) := by
  have h := read_any (ofL l) (by rw [ofL_size]; exact hl) w hw
  rw [ofL_list] at h
  exact h
set_option maxHeartbeats 16000000 in
theorem verbs_walk (s : ByteArray) (b : Int) (hb0 : 0 ≤ b) (hb1 : b < 256) (w : World) (hw : WordW w) : Calls Tryd.prog 4 #[.string s, .int .u8 b] w fun e w' => e = .returned (.bool true) ∧ Keeps (fun _ => False) w w' := by
  have SC := Lib.hid (shown22_any w hw)
  have HW := Lib.hid hw
  clear hw
  by_cases h30 : 30 < s.size
  · skip
    have i30 : (30 : Int) < (s.size : Int) := by omega
    have j30 : (30 : Int) ≤ (s.size : Int) := by omega
    obtain ⟨X, hX⟩ : ∃ X, X = s.extract 0 30 := ⟨_, rfl⟩
    have hXs : X.size ≤ 30 := by rw [hX, ByteArray.size_extract]; omega
    have d30 : decide ((30 : Int) < (s.size : Int)) = true := decide_eq_true i30
    go_enter Tryd.func4, Tryd.ntmps4
    go_wp2_with fail
    refine SC.out.mono ?_
    rintro e wA ⟨rfl, kA⟩
    have KA := Lib.hid kA
    have HWA := Lib.hid (HW.out.keep kA)
    clear kA SC HW
    go_upto_region 4 with fail
    rw [← hX]
    clear hX i30 d30 h30 j30
    go_wp2_with fail
    generalize hwB : World.alloc _ _ = wB
    have HV : Hid (∀ i, i < 17 → wB.cell? ⟨wA.heap.size, i, none⟩ = some (.string (ofL (verbsL.getD i [])))) := Lib.hid fun i hi => by
      rw [← hwB, World.cell?_alloc_old _ _ _ (by simp)]
      exact new_cell _ _ _ _ i _ rfl (tabS i hi)
    have HC : Hid (∀ i, i < 17 → wB.cell? ⟨wA.heap.size + 1, i, none⟩ = some (.int .i64 (countsL.getD i 0))) := Lib.hid fun i hi => by
      rw [← hwB]
      exact new_cell _ _ _ _ i _ (by simp) (tabI i hi)
    have KB : Hid (Keeps (fun _ => False) w wB) := Lib.hid (by rw [← hwB]; exact (KA.out.alloc _).alloc _)
    have HWB : Hid (WordW wB) := Lib.hid (HWA.out.keep (by rw [← hwB]; exact ((Keeps.refl _ _).alloc _).alloc _))
    obtain ⟨p, hp⟩ : ∃ p, p = wA.heap.size := ⟨_, rfl⟩
    rw [← hp] at HV HC ⊢
    clear hwB hp KA HWA
    obtain ⟨L, hL⟩ : ∃ L, L = X.data.toList := ⟨_, rfl⟩
    have HL := Lib.hid hL
    have hLs : L.length = X.size := by rw [hL, len_size]
    clear hL
    go_loop [6, 9] (fun s6 s9 => ∃ (i : Nat), i ≤ 17 ∧ s9 = .int .i64 i ∧ s6 = .int .i64 (findN L i)) (fun _ s9 => 18 - (intOf s9).toNat)
    case atStart => exact ⟨0, Nat.zero_le _, rfl, rfl⟩
    case round =>
      obtain ⟨i, hi, rfl, rfl⟩ := hrel
      by_cases h3 : i < 17
      · have h3I : (i : Int) < 17 := by omega
        have h3d : decide ((i : Int) < 17) = true := decide_eq_true h3I
        have hi0 : (0 : Int) ≤ (i : Int) := by omega
        have v1 := HV.out i h3
        have c1 := HC.out i h3
        have hl1 := cell_ltk v1
        have hl2 := cell_ltk c1
        have bq : ((ofL (verbsL.getD i [])).toList == X.toList) = decide (verbsL.getD i [] = L) := by
          rw [Lib.toList_data, Lib.toList_data, ofL_list, ← HL.out]
          by_cases g : verbsL.getD i [] = L
          · rw [decide_eq_true g, g]; simp
          · rw [decide_eq_false g]; exact beq_eq_false_iff_ne.2 g
        obtain ⟨V, hV⟩ : ∃ V, V = ofL (verbsL.getD i []) := ⟨_, rfl⟩
        obtain ⟨cn, hcn⟩ : ∃ cn, cn = countsL.getD i 0 := ⟨_, rfl⟩
        rw [← hV] at v1 bq
        rw [← hcn] at c1
        by_cases g : verbsL.getD i [] = L
        · have HF : Hid (findN L (i + 1) = cn) := Lib.hid (by rw [findN, if_pos g, hcn])
          rw [decide_eq_true g] at bq
          clear g hV hcn
          go_wp2
          go_round
          case rel => exact ⟨i + 1, by omega, by go_num, by rw [HF.out]⟩
          case measure => simp [intOf]; omega
        · have HF : Hid (findN L (i + 1) = findN L i) := Lib.hid (by rw [findN, if_neg g])
          rw [decide_eq_false g] at bq
          clear g hV hcn
          go_wp2
          go_round
          case rel => exact ⟨i + 1, by omega, by go_num, by rw [HF.out]⟩
          case measure => simp [intOf]; omega
      · obtain rfl : i = 17 := by omega
        rw [find_words]
        obtain ⟨z, hz⟩ : ∃ z, z = wordsN L := ⟨_, rfl⟩
        rw [← hz]
        have HZ := Lib.hid hz
        clear hz HV HC
        go_wp2_with fail
        go_loop [10] (fun s10 => ∃ (i : Nat), i ≤ X.size ∧ s10 = .int .i64 i ∧ ∀ j, j < i → L.getD j 0 ≠ 32) (fun s10 => X.size + 1 - (intOf s10).toNat)
        case atStart => exact ⟨0, Nat.zero_le _, rfl, fun j h => by omega⟩
        case round =>
          obtain ⟨i, hi, rfl, hno⟩ := hrel
          have HNO := Lib.hid hno
          clear hno
          by_cases h3 : i < X.size
          · have h3I : (i : Int) < (X.size : Int) := by omega
            have h3d : decide ((i : Int) < (X.size : Int)) = true := decide_eq_true h3I
            have hi0 : (0 : Int) ≤ (i : Int) := by omega
            have hg : L.getD i 0 = X[i]'h3 := by rw [HL.out, List.getD_eq_getElem?_getD, List.getElem?_eq_getElem (by rw [len_size]; exact h3)]; rfl
            by_cases g : ((X[i]'h3).toNat : Int) = 32
            · go_wp2
              go_ret
              exact ⟨rfl, KB.out⟩
            · have HF : Hid (∀ j, j < i + 1 → L.getD j 0 ≠ 32) := Lib.hid fun j hj => by
                rcases Nat.lt_or_ge j i with h | h
                · exact HNO.out j h
                · obtain rfl : j = i := by omega
                  rw [hg]
                  intro e
                  rw [e] at g
                  exact g rfl
              clear hg
              go_wp2
              go_round
              case rel => exact ⟨i + 1, by omega, by go_num, HF.out⟩
              case measure => simp [intOf]; omega
          · obtain rfl : i = X.size := by omega
            have h3n : ¬ (X.size : Int) < (X.size : Int) := by omega
            have h3d : decide ((X.size : Int) < (X.size : Int)) = false := decide_eq_false h3n
            have HB : Hid ((32 : UInt8) ∉ L) := Lib.hid (by
              intro hm
              obtain ⟨j, hj, e⟩ := List.mem_iff_getElem.1 hm
              exact HNO.out j (by omega) (by rw [← e]; simp [List.getD, hj]))
            obtain ⟨k, hk⟩ : ∃ k : Nat, (k : Int) = b % 6 := ⟨(b % 6).toNat, by omega⟩
            have hk6 : k < 6 := by omega
            clear h3 HNO
            go_upto_region 18 with fail
            rw [← hk]
            clear hk
            have hX0 : X = ofL (L ++ sevens 0) := by rw [sevens, List.append_nil]; exact ofL_of HL.out.symm
            have HX0 := Lib.hid hX0
            clear hX0
            go_wp2_with fail
            go_loop [12, 13] (fun s12 s13 => ∃ (j : Nat), j ≤ k ∧ s13 = .int .i64 j ∧ s12 = .string (ofL (L ++ sevens j))) (fun _ s13 => k + 1 - (intOf s13).toNat)
            case atStart => exact ⟨0, Nat.zero_le _, rfl, by rw [← HX0.out]⟩
            case round =>
              obtain ⟨j, hj, rfl, rfl⟩ := hrel
              have hsz : (ofL (L ++ sevens j)).size ≤ 50 := by rw [ofL_size, List.length_append, sevens_len]; omega
              by_cases h3 : j < k
              · have h3I : (j : Int) < (k : Int) := by omega
                have h3d : decide ((j : Int) < (k : Int)) = true := decide_eq_true h3I
                have HF : Hid (ofL (L ++ sevens j) ++ { data := #[32, 55] } = ofL (L ++ sevens (j + 1))) := Lib.hid (bytes_ext (by rw [app_list, ofL_list, ofL_list, sevens, List.append_assoc]))
                obtain ⟨y, hy⟩ : ∃ y, y = ofL (L ++ sevens j) := ⟨_, rfl⟩
                rw [← hy] at HF hsz ⊢
                clear hy
                go_wp2
                go_round
                case rel => exact ⟨j + 1, by omega, by go_num, by rw [← HF.out]⟩
                case measure => simp [intOf]; omega
              · obtain rfl : j = k := by omega
                have h3n : ¬ (j : Int) < (j : Int) := by omega
                have h3d : decide ((j : Int) < (j : Int)) = false := decide_eq_false h3n
                have RC := Lib.hid (read_made (L ++ sevens j) (by rw [List.length_append, sevens_len]; omega) wB HWB.out)
                obtain ⟨y, hy⟩ : ∃ y, y = ofL (L ++ sevens j) := ⟨_, rfl⟩
                rw [← hy] at RC ⊢
                clear hy hsz
                go_wp2_with fail
                refine RC.out.mono ?_
                rintro e w2 ⟨⟨c, x, rfl, hr⟩, k2⟩
                have K2 := Lib.hid (KB.out.trans k2 (fun _ _ h => h))
                clear k2 RC
                by_cases g : (j : Int) = z
                · obtain ⟨c', hc, hv⟩ := verb_some L j (by rw [g, HZ.out])
                  rw [hc] at hr
                  obtain ⟨rfl, rfl⟩ := hr
                  have hvX : ofL c.verb = X := by rw [hv]; exact (ofL_of HL.out.symm).symm
                  unfold cmdV
                  rw [hvX]
                  have bX := beq_self X
                  have t1 : ((j : Int) == z) = true := beq_iff_eq.2 g
                  clear hc hv hvX
                  subst g
                  go_wp2
                  go_ret
                  exact ⟨rfl, K2.out.alloc _⟩
                · rw [verb_none L HB.out j (by rw [← HZ.out]; exact g)] at hr
                  obtain ⟨rfl, rfl⟩ := hr
                  have t1 : ((j : Int) == z) = false := beq_eq_false_iff_ne.2 g
                  unfold cmdV
                  go_wp2
                  go_ret
                  exact ⟨rfl, K2.out.alloc _⟩
  · skip
    have i30 : ¬ (30 : Int) < (s.size : Int) := by omega
    obtain ⟨X, hX⟩ : ∃ X, X = s := ⟨_, rfl⟩
    have hXs : X.size ≤ 30 := by rw [hX]; omega
    have d30 : decide ((30 : Int) < (s.size : Int)) = false := decide_eq_false i30
    go_enter Tryd.func4, Tryd.ntmps4
    go_wp2_with fail
    refine SC.out.mono ?_
    rintro e wA ⟨rfl, kA⟩
    have KA := Lib.hid kA
    have HWA := Lib.hid (HW.out.keep kA)
    clear kA SC HW
    go_upto_region 4 with fail
    rw [← hX]
    clear hX i30 d30 h30
    go_wp2_with fail
    generalize hwB : World.alloc _ _ = wB
    have HV : Hid (∀ i, i < 17 → wB.cell? ⟨wA.heap.size, i, none⟩ = some (.string (ofL (verbsL.getD i [])))) := Lib.hid fun i hi => by
      rw [← hwB, World.cell?_alloc_old _ _ _ (by simp)]
      exact new_cell _ _ _ _ i _ rfl (tabS i hi)
    have HC : Hid (∀ i, i < 17 → wB.cell? ⟨wA.heap.size + 1, i, none⟩ = some (.int .i64 (countsL.getD i 0))) := Lib.hid fun i hi => by
      rw [← hwB]
      exact new_cell _ _ _ _ i _ (by simp) (tabI i hi)
    have KB : Hid (Keeps (fun _ => False) w wB) := Lib.hid (by rw [← hwB]; exact (KA.out.alloc _).alloc _)
    have HWB : Hid (WordW wB) := Lib.hid (HWA.out.keep (by rw [← hwB]; exact ((Keeps.refl _ _).alloc _).alloc _))
    obtain ⟨p, hp⟩ : ∃ p, p = wA.heap.size := ⟨_, rfl⟩
    rw [← hp] at HV HC ⊢
    clear hwB hp KA HWA
    obtain ⟨L, hL⟩ : ∃ L, L = X.data.toList := ⟨_, rfl⟩
    have HL := Lib.hid hL
    have hLs : L.length = X.size := by rw [hL, len_size]
    clear hL
    go_loop [6, 9] (fun s6 s9 => ∃ (i : Nat), i ≤ 17 ∧ s9 = .int .i64 i ∧ s6 = .int .i64 (findN L i)) (fun _ s9 => 18 - (intOf s9).toNat)
    case atStart => exact ⟨0, Nat.zero_le _, rfl, rfl⟩
    case round =>
      obtain ⟨i, hi, rfl, rfl⟩ := hrel
      by_cases h3 : i < 17
      · have h3I : (i : Int) < 17 := by omega
        have h3d : decide ((i : Int) < 17) = true := decide_eq_true h3I
        have hi0 : (0 : Int) ≤ (i : Int) := by omega
        have v1 := HV.out i h3
        have c1 := HC.out i h3
        have hl1 := cell_ltk v1
        have hl2 := cell_ltk c1
        have bq : ((ofL (verbsL.getD i [])).toList == X.toList) = decide (verbsL.getD i [] = L) := by
          rw [Lib.toList_data, Lib.toList_data, ofL_list, ← HL.out]
          by_cases g : verbsL.getD i [] = L
          · rw [decide_eq_true g, g]; simp
          · rw [decide_eq_false g]; exact beq_eq_false_iff_ne.2 g
        obtain ⟨V, hV⟩ : ∃ V, V = ofL (verbsL.getD i []) := ⟨_, rfl⟩
        obtain ⟨cn, hcn⟩ : ∃ cn, cn = countsL.getD i 0 := ⟨_, rfl⟩
        rw [← hV] at v1 bq
        rw [← hcn] at c1
        by_cases g : verbsL.getD i [] = L
        · have HF : Hid (findN L (i + 1) = cn) := Lib.hid (by rw [findN, if_pos g, hcn])
          rw [decide_eq_true g] at bq
          clear g hV hcn
          go_wp2
          go_round
          case rel => exact ⟨i + 1, by omega, by go_num, by rw [HF.out]⟩
          case measure => simp [intOf]; omega
        · have HF : Hid (findN L (i + 1) = findN L i) := Lib.hid (by rw [findN, if_neg g])
          rw [decide_eq_false g] at bq
          clear g hV hcn
          go_wp2
          go_round
          case rel => exact ⟨i + 1, by omega, by go_num, by rw [HF.out]⟩
          case measure => simp [intOf]; omega
      · obtain rfl : i = 17 := by omega
        rw [find_words]
        obtain ⟨z, hz⟩ : ∃ z, z = wordsN L := ⟨_, rfl⟩
        rw [← hz]
        have HZ := Lib.hid hz
        clear hz HV HC
        go_wp2_with fail
        go_loop [10] (fun s10 => ∃ (i : Nat), i ≤ X.size ∧ s10 = .int .i64 i ∧ ∀ j, j < i → L.getD j 0 ≠ 32) (fun s10 => X.size + 1 - (intOf s10).toNat)
        case atStart => exact ⟨0, Nat.zero_le _, rfl, fun j h => by omega⟩
        case round =>
          obtain ⟨i, hi, rfl, hno⟩ := hrel
          have HNO := Lib.hid hno
          clear hno
          by_cases h3 : i < X.size
          · have h3I : (i : Int) < (X.size : Int) := by omega
            have h3d : decide ((i : Int) < (X.size : Int)) = true := decide_eq_true h3I
            have hi0 : (0 : Int) ≤ (i : Int) := by omega
            have hg : L.getD i 0 = X[i]'h3 := by rw [HL.out, List.getD_eq_getElem?_getD, List.getElem?_eq_getElem (by rw [len_size]; exact h3)]; rfl
            by_cases g : ((X[i]'h3).toNat : Int) = 32
            · go_wp2
              go_ret
              exact ⟨rfl, KB.out⟩
            · have HF : Hid (∀ j, j < i + 1 → L.getD j 0 ≠ 32) := Lib.hid fun j hj => by
                rcases Nat.lt_or_ge j i with h | h
                · exact HNO.out j h
                · obtain rfl : j = i := by omega
                  rw [hg]
                  intro e
                  rw [e] at g
                  exact g rfl
              clear hg
              go_wp2
              go_round
              case rel => exact ⟨i + 1, by omega, by go_num, HF.out⟩
              case measure => simp [intOf]; omega
          · obtain rfl : i = X.size := by omega
            have h3n : ¬ (X.size : Int) < (X.size : Int) := by omega
            have h3d : decide ((X.size : Int) < (X.size : Int)) = false := decide_eq_false h3n
            have HB : Hid ((32 : UInt8) ∉ L) := Lib.hid (by
              intro hm
              obtain ⟨j, hj, e⟩ := List.mem_iff_getElem.1 hm
              exact HNO.out j (by omega) (by rw [← e]; simp [List.getD, hj]))
            obtain ⟨k, hk⟩ : ∃ k : Nat, (k : Int) = b % 6 := ⟨(b % 6).toNat, by omega⟩
            have hk6 : k < 6 := by omega
            clear h3 HNO
            go_upto_region 18 with fail
            rw [← hk]
            clear hk
            have hX0 : X = ofL (L ++ sevens 0) := by rw [sevens, List.append_nil]; exact ofL_of HL.out.symm
            have HX0 := Lib.hid hX0
            clear hX0
            go_wp2_with fail
            go_loop [12, 13] (fun s12 s13 => ∃ (j : Nat), j ≤ k ∧ s13 = .int .i64 j ∧ s12 = .string (ofL (L ++ sevens j))) (fun _ s13 => k + 1 - (intOf s13).toNat)
            case atStart => exact ⟨0, Nat.zero_le _, rfl, by rw [← HX0.out]⟩
            case round =>
              obtain ⟨j, hj, rfl, rfl⟩ := hrel
              have hsz : (ofL (L ++ sevens j)).size ≤ 50 := by rw [ofL_size, List.length_append, sevens_len]; omega
              by_cases h3 : j < k
              · have h3I : (j : Int) < (k : Int) := by omega
                have h3d : decide ((j : Int) < (k : Int)) = true := decide_eq_true h3I
                have HF : Hid (ofL (L ++ sevens j) ++ { data := #[32, 55] } = ofL (L ++ sevens (j + 1))) := Lib.hid (bytes_ext (by rw [app_list, ofL_list, ofL_list, sevens, List.append_assoc]))
                obtain ⟨y, hy⟩ : ∃ y, y = ofL (L ++ sevens j) := ⟨_, rfl⟩
                rw [← hy] at HF hsz ⊢
                clear hy
                go_wp2
                go_round
                case rel => exact ⟨j + 1, by omega, by go_num, by rw [← HF.out]⟩
                case measure => simp [intOf]; omega
              · obtain rfl : j = k := by omega
                have h3n : ¬ (j : Int) < (j : Int) := by omega
                have h3d : decide ((j : Int) < (j : Int)) = false := decide_eq_false h3n
                have RC := Lib.hid (read_made (L ++ sevens j) (by rw [List.length_append, sevens_len]; omega) wB HWB.out)
                obtain ⟨y, hy⟩ : ∃ y, y = ofL (L ++ sevens j) := ⟨_, rfl⟩
                rw [← hy] at RC ⊢
                clear hy hsz
                go_wp2_with fail
                refine RC.out.mono ?_
                rintro e w2 ⟨⟨c, x, rfl, hr⟩, k2⟩
                have K2 := Lib.hid (KB.out.trans k2 (fun _ _ h => h))
                clear k2 RC
                by_cases g : (j : Int) = z
                · obtain ⟨c', hc, hv⟩ := verb_some L j (by rw [g, HZ.out])
                  rw [hc] at hr
                  obtain ⟨rfl, rfl⟩ := hr
                  have hvX : ofL c.verb = X := by rw [hv]; exact (ofL_of HL.out.symm).symm
                  unfold cmdV
                  rw [hvX]
                  have bX := beq_self X
                  have t1 : ((j : Int) == z) = true := beq_iff_eq.2 g
                  clear hc hv hvX
                  subst g
                  go_wp2
                  go_ret
                  exact ⟨rfl, K2.out.alloc _⟩
                · rw [verb_none L HB.out j (by rw [← HZ.out]; exact g)] at hr
                  obtain ⟨rfl, rfl⟩ := hr
                  have t1 : ((j : Int) == z) = false := beq_eq_false_iff_ne.2 g
                  unfold cmdV
                  go_wp2
                  go_ret
                  exact ⟨rfl, K2.out.alloc _⟩
end Go.Proofs.YtoombjbpblighabDoor
