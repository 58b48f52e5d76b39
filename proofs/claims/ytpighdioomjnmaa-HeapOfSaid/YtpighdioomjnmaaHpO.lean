/-
  Layer 10: the contract of Of. Written by an AI agent.
-/
import Derived.Test.YtpighdioomjnmaaHpT
namespace Go.Proofs.Ytpighdioomjnmaa
open Go.RowKit
set_option linter.unusedVariables false

theorem cell_lt {w : World} {b o : Nat} {v : Value} (h : w.cell? ⟨b, o, none⟩ = some v) : b < w.heap.size := by simpa using World.block_lt_of_cell? w _ h

theorem rdv_keep {w w' : World} {A : Option Addr} {l : List Value} (h : RdV w A l) (hk : Keeps (fun _ => False) w w') : RdV w' A l := fun h0 => by
  obtain ⟨b, off, h1, h2⟩ := h h0
  refine ⟨b, off, h1, fun i hi => ?_⟩
  have hc := h2 i hi
  rw [List.getElem?_eq_getElem hi] at hc ⊢
  exact (hk.cell (cell_lt hc) (fun h => h)).trans hc
theorem rdl_keep {w w' : World} {A : Option Addr} {L : List (List Int)} (h : RdL w A L) (hk : Keeps (fun _ => False) w w') : RdL w' A L := fun h0 => by
  obtain ⟨b, off, h1, h2⟩ := h h0
  refine ⟨b, off, h1, fun i hi => ?_⟩
  obtain ⟨Ai, ci, h3, h4⟩ := h2 i hi
  exact ⟨Ai, ci, (hk.cell (cell_lt h3) (fun h => h)).trans h3, rdv_keep h4 hk⟩

/-- The first k lists may be made. -/
def OkL (L : List (List Int)) (k : Nat) : Prop := ∀ j, j < k → (L.getD j []).length ≤ 16 ∧ Fits (L.take j) ((L.getD j []).length : Int)

theorem take_snoc (L : List (List Int)) (k : Nat) (hk : k < L.length) : L.take (k + 1) = L.take k ++ [L.getD k []] := by
  rw [List.take_succ_eq_append_getElem hk, List.getD_eq_getElem?_getD, List.getElem?_eq_getElem hk]
  rfl

theorem ends_eq (L : List (List Int)) (x y : List Int) (h : x.length = y.length) : ends (L ++ [x]) = ends (L ++ [y]) := by rw [ends_snoc, ends_snoc, h]

theorem HeapL.small {w : World} {S : Nat → Prop} {p : Nat} {L : List (List Int)} (h : HeapL w S p L) : HeapL w (fun k => S k ∧ k < w.heap.size) p L :=
  h.wider fun k hk hS => ⟨hS, hk⟩
theorem own_row_of {w : World} {g n : Nat} {v : Value} {xs : List Value} (h : w.ownsRow 0 3 1 v n xs) (hv : v.ownBlock = some g) : ∃ cur : List Value, n ≤ cur.length ∧ w.heap[g]? = some (.cells cur.toArray 3 (0, 0)) := by
  rcases h.2 with ⟨rfl, _⟩ | ⟨g', cap', cur, rfl, _, hg, hn, _, hs, _⟩
  · cases hv
  · have e : g' = g := by simpa [Value.ownBlock] using hv
    subst e
    exact ⟨cur.toList, by rw [Array.length_toList, hs]; omega, by simpa using hg⟩

/-- What Of hands back. -/
def OfPost (L : List (List Int)) (w : World) (e : Ending) (w' : World) : Prop :=
  Keeps (fun _ => False) w w' ∧
  ((OkL L L.length ∧ ∃ p, e = .returned (.tuple #[.pointer (some ⟨p, 0, none⟩), .bool true]) ∧ HeapL w' (fun k => w.heap.size ≤ k ∧ k < w'.heap.size) p L) ∨
   (¬ OkL L L.length ∧ e = .returned (.tuple #[.pointer none, .bool false])))

/-- What a copy onto the last list makes of a heap. -/
theorem HeapIs.filled {w : World} {S : Nat → Prop} {p g : Nat} {vc ve : Value} {L : List (List Int)} {x : List Int} {m : Nat} (H : HeapIs w S p vc ve (L ++ [List.replicate m 0]).flatten (ends (L ++ [List.replicate m 0]))) (hv : vc.ownBlock = some g)
    (cur : List Value) (hg : w.heap[g]? = some (.cells cur.toArray 3 (0, 0))) (hx : x.length = m) :
    HeapIs (w.setRow g (splice cur L.flatten.length (iv x)).toArray) S p vc ve (L ++ [x]).flatten (ends (L ++ [x])) ∧ Keeps S w (w.setRow g (splice cur L.flatten.length (iv x)).toArray) := by
  have h := H.copied0 hv cur hg L.flatten.length x (by rw [flat_snoc]; simp; omega)
  have e1 : splice (L ++ [List.replicate m 0]).flatten L.flatten.length x = (L ++ [x]).flatten := by
    rw [flat_snoc]
    unfold splice
    rw [List.take_left, List.drop_of_length_le (by simp; omega)]
    simp
  rw [e1, ends_eq L (List.replicate m 0) x (by rw [List.length_replicate, hx])] at h
  exact h

set_option maxRecDepth 100000 in
set_option maxHeartbeats 2000000 in
theorem of_any (w : World) (A : Option Addr) (cap : Nat) (L : List (List Int)) (hL : L.length ≤ 1000) (hl : ∀ i, (L.getD i []).length ≤ 1000) (hA : RdL w A L) :
    Calls Try.prog 21 #[.slice A L.length cap] w (OfPost L w) := by
  obtain ⟨n, hn⟩ : ∃ n : Nat, n = L.length := ⟨_, rfl⟩
  rw [← hn] at hL ⊢
  have HA := Lib.hid hA
  have HLn := Lib.hid hl
  have HN := Lib.hid hn
  clear hn hA hl
  go_enter Try.func21, Try.ntmps21
  go_wp2_with fail
  refine (new_any _).mono ?_
  rintro e w1 ⟨rfl, hw1⟩
  have H1 := heapL_new w
  have K1 : Keeps (fun _ => False) w w1 := by rw [hw1]; exact (Keeps.refl _ w).alloc _
  have S1 : w1.heap.size = w.heap.size + 1 := by rw [hw1]; simp
  rw [← hw1] at H1
  obtain ⟨p, hp⟩ : ∃ p : Nat, p = w.heap.size := ⟨_, rfl⟩
  rw [← hp] at H1 ⊢
  have HP := Lib.hid hp
  have HH1 := Lib.hid H1
  have HK1 := Lib.hid K1
  have HS1 := Lib.hid S1
  clear hw1 hp H1 K1 S1
  go_wp2_with fail
  go_loopw [12] (fun i wr => ∃ k : Nat, k ≤ n ∧ i = .int .i64 k ∧ OkL L k ∧ HeapL wr (fun b => w.heap.size ≤ b) p (L.take k) ∧ Keeps (fun _ => False) w wr) (fun i _ => n - (intOf i).toNat)
  case atStart => exact ⟨0, Nat.zero_le _, rfl, fun j hj => absurd hj (Nat.not_lt_zero _), HH1.out.wider (fun b _ hb => by have := HP.out; show w.heap.size ≤ b; omega), HK1.out⟩
  case round =>
    obtain ⟨k, hk, rfl, hok, hh, kr⟩ := hrel
    by_cases hkn : k < n
    · have hkn' : (k : Int) < (n : Int) := by omega
      have hk0 : (0 : Int) ≤ (k : Int) := by omega
      have hkL : k < L.length := by rw [← HN.out]; exact hkn
      obtain ⟨ba, oa, hA1, ha⟩ := HA.out (by rw [← HN.out]; omega)
      obtain ⟨A2, c2, ha1w, ha2⟩ := ha k hkL
      have ha1 := (kr.cell (cell_lt ha1w) (fun h => h)).trans ha1w
      obtain ⟨m, hm⟩ : ∃ m : Nat, m = (L.getD k []).length := ⟨_, rfl⟩
      have hm1000 : m ≤ 1000 := by rw [hm]; exact HLn.out k
      have htl : (L.take k).length = k := by rw [List.length_take]; omega
      have hfl : (L.take k).flatten.length ≤ 40 := by
        rcases k with _ | j
        · simp
        · have h1 := (hok j (by omega)).2
          have h2 := flat_take L j (by omega)
          unfold Fits at h1
          omega
      have MC := Lib.hid (make_any wr _ p (L.take k) hh (by omega) (by omega) (m : Int))
      rw [← hm] at ha1
      have HM := Lib.hid hm
      have HO := Lib.hid hok
      have HHr := Lib.hid hh
      have KR := Lib.hid kr
      have RA := Lib.hid ha2
      have HT := Lib.hid htl
      have HF := Lib.hid hfl
      have HKL := Lib.hid hkL
      subst hA1
      clear ha hm hok hh kr ha2 htl hfl hkL ha1w
      go_wp2_with fail
      refine MC.out.mono ?_
      rintro e w3 ⟨xx, tt, L', rfl, H3, K3, hcase⟩
      have hsr := KR.out.size
      have K3' : Keeps (fun _ => False) w w3 := KR.out.trans (K3.mono (T := fun b => w.heap.size ≤ b) (fun _ _ h => h)) (fun b hb h => absurd h (by omega))
      have H3' := H3.wider (T := fun b => w.heap.size ≤ b) (fun b _ hb => by rcases hb with hb | hb; exact hb; show w.heap.size ≤ b; omega)
      have HH3 := Lib.hid H3'
      have HK3 := Lib.hid K3'
      have KR3 : Hid (Keeps (fun b => w.heap.size ≤ b) wr w3) := K3
      clear H3 K3 K3' H3' hsr
      have hbad : ∀ (hh : ¬ ((L.getD k []).length ≤ 16 ∧ Fits (L.take k) ((L.getD k []).length : Int))), ¬ OkL L L.length := fun hh hO => hh (hO k HKL.out)
      have HBad := Lib.hid hbad
      clear hbad
      rcases hcase with ⟨c1, rfl, rfl, hL'⟩ | ⟨_, c1, c2, rfl, rfl, hL'⟩ | ⟨_, c1, c2, rfl, rfl, hL'⟩
      · have hb : ¬ OkL L L.length := HBad.out (fun h => by have := HM.out; omega)
        have HB := Lib.hid hb
        clear hb hL' c1
        go_wp2
        exact bodyPost_ret (v := .tuple #[.pointer none, .bool false]) (by simp [results, Try.results21, go_sem]) rfl ⟨HK3.out, .inr ⟨HB.out, rfl⟩⟩
      · have hb : ¬ OkL L L.length := HBad.out (fun h => by rw [← HM.out] at h; exact c2 h.2)
        have HB := Lib.hid hb
        clear hb hL' c1 c2
        go_wp2
        exact bodyPost_ret (v := .tuple #[.pointer none, .bool false]) (by simp [results, Try.results21, go_sem]) rfl ⟨HK3.out, .inr ⟨HB.out, rfl⟩⟩
      · rw [HT.out]
        have hH3 := HH3.out
        rw [hL', Int.toNat_natCast] at hH3
        obtain ⟨vc, ve, hI⟩ := hH3
        have hlen : (L.take k ++ [List.replicate m 0]).length = k + 1 := by rw [List.length_append, HT.out]; rfl
        have hfl2 : (L.take k ++ [List.replicate m 0]).flatten.length ≤ 1000 := by rw [flat_snoc, List.length_append, List.length_replicate]; have := HF.out; omega
        have LC := list_in w3 _ p vc ve _ hI (by rw [hlen]; omega) hfl2 k (by rw [hlen]; omega)
        have e1 : (L.take k ++ [List.replicate m 0]).take k = L.take k := by rw [List.take_append_of_le_length (by rw [HT.out]; exact Nat.le_refl _), List.take_of_length_le (by rw [HT.out]; exact Nat.le_refl _)]
        have e2 : (L.take k ++ [List.replicate m 0]).getD k [] = List.replicate m 0 := by
          rw [List.getD_eq_getElem?_getD, List.getElem?_append_right (by rw [HT.out]; exact Nat.le_refl _), HT.out, Nat.sub_self]
          rfl
        rw [e1, e2, List.length_replicate] at LC
        obtain ⟨f, hf⟩ : ∃ f : Nat, f = (L.take k).flatten.length := ⟨_, rfl⟩
        rw [← hf] at LC
        have HFf := Lib.hid hf
        clear hf
        have HLC := Lib.hid LC
        have HI := Lib.hid hI
        have HOk : Hid (OkL L (k + 1)) := fun j hj => by
          rcases Nat.lt_or_ge j k with h | h
          · exact HO.out j h
          · obtain rfl : j = k := by omega
            rw [← HM.out]
            exact ⟨by omega, c2⟩
        have HC2 := Lib.hid c2
        clear LC hI hL' hlen hfl2 e1 e2 c2
        go_wp2_with fail
        refine HLC.out.mono ?_
        rintro e w4 ⟨A4, rfl, hA4, q, hq⟩
        have K4 : Keeps (fun _ => False) w3 w4 := by rw [hq]; exact keeps_drewN _ w3 q
        have HI4 := Lib.hid (HI.out.keep K4 (fun _ _ _ h => h))
        have HK4 := Lib.hid (HK3.out.trans K4 (fun _ _ h => h))
        have RA4 := Lib.hid (rdv_keep RA.out HK4.out)
        have HA4 := Lib.hid hA4
        clear hq K4 hA4
        by_cases m0 : m = 0
        · subst m0
          have hx : L.getD k [] = [] := List.eq_nil_of_length_eq_zero HM.out.symm
          have hfin : HeapL w4 (fun b => w.heap.size ≤ b) p (L.take (k + 1)) := by
            rw [take_snoc L k HKL.out, hx]
            exact ⟨vc, ve, HI4.out⟩
          have HFin := Lib.hid hfin
          clear hx hfin
          go_wp2_with (refine wpList_copy_nothing rfl (.tmp 27) (.tmp 28) 41 41 rfl 3 Try.underlying41 info3s A4 A2 0 0 0 c2 (by rfl) (by rfl) rfl ?_)
          go_roundw
          case rel => exact ⟨k + 1, by omega, by go_num, HOk.out, HFin.out, HK4.out⟩
          case measure => simp [intOf]; omega
        · obtain ⟨g, hg, rfl⟩ := HA4.out (by omega)
          have hI4 := HI4.out
          obtain ⟨cur, hcl, hcg⟩ := own_row_of hI4.oc hg
          have hfit : f + (iv (L.getD k [])).length ≤ cur.length := by
            rw [iv_length, ← HM.out]
            rw [flat_snoc, List.length_append, List.length_replicate, ← HFf.out] at hcl
            exact hcl
          have hfill := hI4.filled (x := L.getD k []) hg cur hcg HM.out.symm
          rw [← take_snoc L k HKL.out, ← HFf.out] at hfill
          obtain ⟨w5, hw5⟩ : ∃ w5 : World, w5 = w4.setRow g (splice cur f (iv (L.getD k []))).toArray := ⟨_, rfl⟩
          rw [← hw5] at hfill
          have k5 : Keeps (fun _ => False) w w5 := HK4.out.trans hfill.2 (fun b hb h => absurd h (by show ¬ w.heap.size ≤ b; omega))
          have HFin : Hid (HeapL w5 (fun b => w.heap.size ≤ b) p (L.take (k + 1))) := ⟨vc, ve, hfill.1⟩
          have HK5 := Lib.hid k5
          have HG := Lib.hid hcg
          have HFit := Lib.hid hfit
          have HW5 := Lib.hid hw5
          clear hI4 hcl hcg hfit hfill hw5 k5 hg
          go_wp2_with (refine wpList_copy_at rfl (.tmp 27) (.tmp 28) 41 41 rfl 3 Try.underlying41 info3s (some ⟨g, f, none⟩) A2 m m c2 g f (by rfl) (by rfl) cur 3 HG.out (iv (L.getD k [])) (by rw [iv_length, HM.out]) (fun _ => rfl) RA4.out HFit.out (iv_one _) ?_; rw [← HW5.out])
          go_roundw
          case rel => exact ⟨k + 1, by omega, by go_num, HOk.out, HFin.out, HK5.out⟩
          case measure => simp [intOf]; omega
    · obtain rfl : k = n := by omega
      have hd : decide (k < k) = false := by simp
      have hO : OkL L L.length := by rw [← HN.out]; exact hok
      have hH := HeapL.small hh
      rw [List.take_of_length_le (by rw [← HN.out]; exact Nat.le_refl _)] at hH
      have HO := Lib.hid hO
      have HH := Lib.hid hH
      have KR := Lib.hid kr
      clear hO hH hok hh kr
      go_wp2
      exact bodyPost_ret (v := .tuple #[.pointer (some ⟨p, 0, none⟩), .bool true]) (by simp [results, Try.results21, go_sem]) rfl ⟨KR.out, .inl ⟨HO.out, p, rfl, HH.out⟩⟩

end Go.Proofs.Ytpighdioomjnmaa
