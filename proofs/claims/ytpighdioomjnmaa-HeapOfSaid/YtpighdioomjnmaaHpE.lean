/-
  Layer 10: contracts of Get, Put and Len. Written by an AI agent.
-/
import Derived.Test.YtpighdioomjnmaaHpD
import Derived.Deep.RegionHeld
namespace Go.Proofs.Ytpighdioomjnmaa
open Go.RowKit
set_option linter.unusedVariables false

/-- These lists, a number put at a place. -/
def setL (L : List (List Int)) (k i : Nat) (n : Int) : List (List Int) := L.set k ((L.getD k []).set i n)
theorem setL_length (L : List (List Int)) (k i : Nat) (n : Int) : (setL L k i n).length = L.length := by simp [setL]
theorem setL_getD (L : List (List Int)) (k i : Nat) (n : Int) (j : Nat) : (setL L k i n).getD j [] = if k = j ∧ k < L.length then (L.getD k []).set i n else L.getD j [] := by
  unfold setL
  simp only [List.getD_eq_getElem?_getD, List.getElem?_set]
  by_cases h : k = j
  · subst h
    by_cases h2 : k < L.length
    · simp [h2]
    · simp [h2]
  · simp [h]
theorem setL_len (L : List (List Int)) (k i : Nat) (n : Int) (j : Nat) : ((setL L k i n).getD j []).length = (L.getD j []).length := by
  rw [setL_getD]
  split
  · rename_i h
    rw [← h.1, List.length_set]
  · rfl
theorem take_flat_len (L M : List (List Int)) (hl : L.length = M.length) (h : ∀ j, (L.getD j []).length = (M.getD j []).length) (i : Nat) : (L.take i).flatten.length = (M.take i).flatten.length := by
  induction i with
  | zero => rfl
  | succ i ih =>
    by_cases hi : i < L.length
    · rw [flat_take L i hi, flat_take M i (by omega), ih, h i]
    · rw [List.take_of_length_le (by omega), List.take_of_length_le (by omega)]
      rw [List.take_of_length_le (by omega), List.take_of_length_le (by omega)] at ih
      exact ih
theorem setL_ends (L : List (List Int)) (k i : Nat) (n : Int) : ends (setL L k i n) = ends L := by
  unfold ends
  rw [setL_length]
  refine List.map_congr_left fun j _ => ?_
  rw [take_flat_len (setL L k i n) L (setL_length L k i n) (setL_len L k i n)]
theorem setL_flat_length (L : List (List Int)) (k i : Nat) (n : Int) : (setL L k i n).flatten.length = L.flatten.length := by
  have h := take_flat_len (setL L k i n) L (setL_length L k i n) (setL_len L k i n) L.length
  rw [List.take_of_length_le (by rw [setL_length]; exact Nat.le_refl _), List.take_of_length_le (Nat.le_refl _)] at h
  exact h
theorem setL_flat (L : List (List Int)) (k i : Nat) (n : Int) (hk : k < L.length) (hi : i < (L.getD k []).length) : (setL L k i n).flatten = L.flatten.set ((L.take k).flatten.length + i) n := by
  have h1 : L = L.take k ++ (L.getD k [] :: L.drop (k + 1)) := by
    rw [List.getD_eq_getElem?_getD, List.getElem?_eq_getElem hk, Option.getD_some]
    exact (List.take_append_drop k L).symm.trans (by rw [List.drop_eq_getElem_cons hk])
  have h2 : setL L k i n = L.take k ++ ((L.getD k []).set i n :: L.drop (k + 1)) := by
    unfold setL
    rw [List.set_eq_take_append_cons_drop, if_pos hk]
  have e : L.flatten = (L.take k).flatten ++ ((L.getD k []) ++ (L.drop (k + 1)).flatten) := by
    conv => lhs; rw [h1]
    rw [List.flatten_append, List.flatten_cons]
  rw [h2, e, List.flatten_append, List.flatten_cons, List.set_append_right _ _ (by omega), Nat.add_sub_cancel_left, List.set_append_left _ _ hi]

theorem iv_set (l : List Int) (j : Nat) (n : Int) : iv (l.set j n) = (iv l).set j (.int .i64 n) := by simp [iv, List.map_set]

theorem HeapIs.put {w : World} {S : Nat → Prop} {p g : Nat} {vc ve : Value} {L : List (List Int)} (H : HeapIs w S p vc ve L.flatten (ends L)) {k i : Nat} (hk : k < L.length) (hi : i < (L.getD k []).length) (hg : vc.ownBlock = some g) (n : Int) :
    HeapIs (w.setCell ⟨g, (L.take k).flatten.length + i, none⟩ (.int .i64 n)) S p vc ve (setL L k i n).flatten (ends (setL L k i n)) ∧ Keeps S w (w.setCell ⟨g, (L.take k).flatten.length + i, none⟩ (.int .i64 n)) := by
  obtain ⟨s1, s2, s3⟩ := H.sc g hg
  have oc := H.oc
  obtain ⟨cap, hv⟩ : ∃ cap, vc = .slice (some ⟨g, 0, none⟩) L.flatten.length cap := by
    rcases oc.2 with ⟨h, _⟩ | ⟨g1, cap, cur, h, _⟩
    · rw [h] at hg; cases hg
    · rw [h] at hg
      have : g1 = g := by simpa [Value.ownBlock] using hg
      exact ⟨cap, by rw [h, this]⟩
  have st := oc
  rw [hv] at st
  have stt := st.stored ((L.take k).flatten.length + i) (.int .i64 n)
  refine ⟨⟨?_, ?_, fun j => by rw [World.frozen?_setCell]; exact H.fz j, by simpa using H.lt, ?_, ?_, H.sp, fun j hj => ⟨(H.sc j hj).1, (H.sc j hj).2.1, by simpa using (H.sc j hj).2.2⟩, fun j hj => ⟨(H.se j hj).1, (H.se j hj).2.1, by simpa using (H.se j hj).2.2⟩, H.ce⟩, (Keeps.refl _ _).setCell (fun _ => s1) _⟩
  · exact (World.cell?_setCell_far w ⟨g, (L.take k).flatten.length + i, none⟩ ⟨p, 0, none⟩ _ s2).trans H.c0
  · exact (World.cell?_setCell_far w ⟨g, (L.take k).flatten.length + i, none⟩ ⟨p, 1, none⟩ _ s2).trans H.c1
  · rw [setL_flat_length, setL_flat L k i n hk hi, iv_set, hv]
    exact stt.1
  · rw [setL_ends]
    exact ownsRow_keep H.oe fun j hj => Below.heap_setCell w _ _ j (fun e => H.ce g hg (by rw [hj]; exact congrArg some e))

/-- What Put leaves. -/
def PutDone (S : Nat → Prop) (p : Nat) (vc ve : Value) (L : List (List Int)) (w : World) (e : Ending) (w' : World) : Prop :=
  e = .returned (.int .i64 0) ∧ HeapIs w' S p vc ve L.flatten (ends L) ∧ Keeps S w w'

theorem put_in (w : World) (S : Nat → Prop) (p : Nat) (vc ve : Value) (L : List (List Int)) (H : HeapIs w S p vc ve L.flatten (ends L)) (hL : L.length ≤ 1000) (hc : L.flatten.length ≤ 1000) (k i : Nat) (hk : k < L.length) (hi : i < (L.getD k []).length) (n : Int) :
    Calls Try.prog 14 #[.pointer (some ⟨p, 0, none⟩), .int .i64 ((k : Int) + 1), .int .i64 (i : Int), .int .i64 n] w (PutDone S p vc ve (setL L k i n) w) := by
  have LC := Lib.hid (list_in w S p vc ve L H hL hc k hk)
  have HP := Lib.hid (fun (w' : World) (hk' : Keeps (fun _ => False) w w') (g : Nat) (hg : vc.ownBlock = some g) => (H.keep hk' (fun _ _ _ h => h)).put hk hi hg n)
  have HR := Lib.hid (fun (w' : World) (hk' : Keeps (fun _ => False) w w') (g : Nat) (hg : vc.ownBlock = some g) => rd_list (H.keep hk' (fun _ _ _ h => h)) hk hg i hi)
  have HF := Lib.hid (fun (w' : World) (hk' : Keeps (fun _ => False) w w') (g : Nat) (hg : vc.ownBlock = some g) => (H.keep hk' (fun _ _ _ h => h)).oc)
  obtain ⟨m, hm⟩ : ∃ m : Nat, m = (L.getD k []).length := ⟨_, rfl⟩
  have hm2 : m ≤ 1000 := by have := flat_take L k hk; have := flat_le L (k + 1); omega
  obtain ⟨f, hf⟩ : ∃ f : Nat, f = (L.take k).flatten.length := ⟨_, rfl⟩
  rw [← hm, ← hf] at LC
  rw [← hm] at hi
  rw [← hf] at HP HR
  clear hm hf H hc hk
  have i0 : ¬ (i : Int) < 0 := by omega
  have i1 : ¬ (m : Int) ≤ (i : Int) := by omega
  have i2 : (i : Int) < (m : Int) := by omega
  have i3 : (0 : Int) ≤ (i : Int) := by omega
  go_enter Try.func14, Try.ntmps14
  go_wp2_with fail
  refine LC.out.mono ?_
  rintro e w2 ⟨A, rfl, hA, q, hq⟩
  have K2 : Keeps (fun _ => False) w w2 := by rw [hq]; exact keeps_drewN _ w q
  obtain ⟨g, hg, rfl⟩ := hA (by omega)
  have hcell := HR.out w2 K2 g hg
  have hoc := HF.out w2 K2 g hg
  have hfz : w2.frozen? ⟨g, f + i, none⟩ = false := by
    rcases hoc.2 with ⟨h, _⟩ | ⟨g1, cap, cur, h, _⟩
    · rw [h] at hg; cases hg
    · rw [h] at hoc hg
      have : g1 = g := by simpa [Value.ownBlock] using hg
      rw [this] at hoc
      exact hoc.frozenAt _
  have HPP := Lib.hid (HP.out w2 K2 g hg)
  have KK := Lib.hid K2
  clear hoc hq hA hg K2
  go_wp2
  go_ret
  exact ⟨rfl, HPP.out.1, (KK.out.mono (fun _ _ h => h.elim)).trans HPP.out.2 (fun _ _ h => h)⟩

/-- What hands back a piece of m numbers, wherever it lies. -/
def ListM (m : Nat) (w : World) (e : Ending) (w' : World) : Prop := ∃ A, e = .returned (.slice A m m) ∧ ∃ k, w' = w.drewN k
theorem GotList.toM {vc : Value} {f m : Nat} {w w' : World} {e : Ending} (h : GotList vc f m w e w') : ListM m w e w' := by
  obtain ⟨A, h1, _, h2⟩ := h
  exact ⟨A, h1, h2⟩

theorem put_out (w : World) (p m : Nat) (at0 i n : Int) (LC0 : Calls Try.prog 24 #[.pointer (some ⟨p, 0, none⟩), .int .i64 at0] w (ListM m w)) (h : i < 0 ∨ (m : Int) ≤ i) :
    Calls Try.prog 14 #[.pointer (some ⟨p, 0, none⟩), .int .i64 at0, .int .i64 i, .int .i64 n] w fun e w' => e = .returned (.int .i64 2) ∧ ∃ k, w' = w.drewN k := by
  have LC := Lib.hid LC0
  clear LC0
  by_cases h0 : i < 0
  · go_enter Try.func14, Try.ntmps14
    go_wp2_with fail
    refine LC.out.mono ?_
    rintro e w2 ⟨A, rfl, q, hq⟩
    go_wp2
    go_ret
    exact ⟨rfl, q, rfl⟩
  · have h1 : (m : Int) ≤ i := by omega
    clear h
    go_enter Try.func14, Try.ntmps14
    go_wp2_with fail
    refine LC.out.mono ?_
    rintro e w2 ⟨A, rfl, q, hq⟩
    go_wp2
    go_ret
    exact ⟨rfl, q, rfl⟩

theorem get_out (w : World) (p m : Nat) (at0 i : Int) (LC0 : Calls Try.prog 24 #[.pointer (some ⟨p, 0, none⟩), .int .i64 at0] w (ListM m w)) (h : i < 0 ∨ (m : Int) ≤ i) :
    Calls Try.prog 12 #[.pointer (some ⟨p, 0, none⟩), .int .i64 at0, .int .i64 i] w fun e w' => e = .returned (.tuple #[.int .i64 0, .int .i64 2]) ∧ ∃ k, w' = w.drewN k := by
  have LC := Lib.hid LC0
  clear LC0
  by_cases h0 : i < 0
  · go_enter Try.func12, Try.ntmps12
    go_wp2_with fail
    refine LC.out.mono ?_
    rintro e w2 ⟨A, rfl, q, hq⟩
    have HQ := Lib.hid hq
    clear hq
    go_wp2
    exact bodyPost_ret (v := .tuple #[.int .i64 0, .int .i64 2]) (by simp [results, Try.results12, go_sem]) rfl ⟨rfl, q, HQ.out⟩
  · have h1 : (m : Int) ≤ i := by omega
    clear h
    go_enter Try.func12, Try.ntmps12
    go_wp2_with fail
    refine LC.out.mono ?_
    rintro e w2 ⟨A, rfl, q, hq⟩
    have HQ := Lib.hid hq
    clear hq
    go_wp2
    exact bodyPost_ret (v := .tuple #[.int .i64 0, .int .i64 2]) (by simp [results, Try.results12, go_sem]) rfl ⟨rfl, q, HQ.out⟩

theorem len_any (w : World) (p m : Nat) (at0 : Int) (LC0 : Calls Try.prog 24 #[.pointer (some ⟨p, 0, none⟩), .int .i64 at0] w (ListM m w)) :
    Calls Try.prog 16 #[.pointer (some ⟨p, 0, none⟩), .int .i64 at0] w fun e w' => e = .returned (.int .i64 (m : Int)) ∧ ∃ k, w' = w.drewN k := by
  have LC := Lib.hid LC0
  clear LC0
  go_enter Try.func16, Try.ntmps16
  go_wp2_with fail
  refine LC.out.mono ?_
  rintro e w2 ⟨A, rfl, q, hq⟩
  have HQ := Lib.hid hq
  clear hq
  go_wp2
  go_ret
  exact ⟨rfl, q, HQ.out⟩

theorem get_in (w : World) (S : Nat → Prop) (p : Nat) (vc ve : Value) (L : List (List Int)) (H : HeapIs w S p vc ve L.flatten (ends L)) (hL : L.length ≤ 1000) (hc : L.flatten.length ≤ 1000) (k i : Nat) (hk : k < L.length) (hi : i < (L.getD k []).length) :
    Calls Try.prog 12 #[.pointer (some ⟨p, 0, none⟩), .int .i64 ((k : Int) + 1), .int .i64 (i : Int)] w fun e w' => e = .returned (.tuple #[.int .i64 ((L.getD k []).getD i 0), .int .i64 0]) ∧ ∃ k, w' = w.drewN k := by
  have LC := Lib.hid (list_in w S p vc ve L H hL hc k hk)
  have HR := Lib.hid (fun (w' : World) (hk' : Keeps (fun _ => False) w w') (g : Nat) (hg : vc.ownBlock = some g) => rd_list (H.keep hk' (fun _ _ _ h => h)) hk hg i hi)
  obtain ⟨m, hm⟩ : ∃ m : Nat, m = (L.getD k []).length := ⟨_, rfl⟩
  have hm2 : m ≤ 1000 := by have := flat_take L k hk; have := flat_le L (k + 1); omega
  obtain ⟨f, hf⟩ : ∃ f : Nat, f = (L.take k).flatten.length := ⟨_, rfl⟩
  obtain ⟨x, hx⟩ : ∃ x : Int, x = (L.getD k []).getD i 0 := ⟨_, rfl⟩
  rw [← hm, ← hf] at LC
  rw [← hm] at hi
  rw [← hf, ← hx] at HR
  rw [← hx]
  clear hm hf hx H hc hk
  have i0 : ¬ (i : Int) < 0 := by omega
  have i1 : ¬ (m : Int) ≤ (i : Int) := by omega
  have i2 : (i : Int) < (m : Int) := by omega
  have i3 : (0 : Int) ≤ (i : Int) := by omega
  go_enter Try.func12, Try.ntmps12
  go_wp2_with fail
  refine LC.out.mono ?_
  rintro e w2 ⟨A, rfl, hA, q, hq⟩
  have K2 : Keeps (fun _ => False) w w2 := by rw [hq]; exact keeps_drewN _ w q
  obtain ⟨g, hg, rfl⟩ := hA (by omega)
  have hcell := HR.out w2 K2 g hg
  have HQ := Lib.hid hq
  clear hq hA hg K2
  go_wp2
  exact bodyPost_ret (v := .tuple #[.int .i64 x, .int .i64 0]) (by simp [results, Try.results12, go_sem]) rfl ⟨rfl, q, HQ.out⟩

end Go.Proofs.Ytpighdioomjnmaa
