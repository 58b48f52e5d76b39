/-
  Layer 8: the contract of number. Written by an AI agent.
-/
import Derived.Test.YtoombjbpblighaaDoorCoD
namespace Go.Proofs.YtoombjbpblighaaDoor
open Go Go.RowKit Go.Shelf
set_option linter.unusedVariables false
set_option linter.unusedSimpArgs false

theorem info5 : (Tryd.prog.info? 5).map (fun i => (i.zero, i.size, i.bytes)) = some (some (.int .u8 0), 1, 1) := by kernel_rfl
def valB (L : List Int) : List Value := L.map fun b => .int .u8 b
theorem valB_append (L M : List Int) : valB (L ++ M) = valB L ++ valB M := by simp [valB]
theorem valB_length (L : List Int) : (valB L).length = L.length := by simp [valB]
theorem valB_one (L : List Int) : ∀ u ∈ valB L, u.oneCell' = true := by
  intro u h
  simp only [valB, List.mem_map] at h
  obtain ⟨b, _, rfl⟩ := h
  rfl
theorem news1 {w : World} {s : Nat} (x : Value) (t : TypeId) (hs : w.heap.size = s) : ∀ j u, [x][j]? = some u → (w.alloc (.cells #[x] t)).cell? ((⟨s, 0, none⟩ : Addr).add j) = some u := by
  intro j u h
  subst hs
  have e : (⟨w.heap.size, 0, none⟩ : Addr).add j = ⟨w.heap.size, j, none⟩ := by unfold Addr.add; split <;> simp_all
  rw [e]
  have hj : j < 1 := (List.getElem?_eq_some_iff.1 h).1
  match j, hj with
  | 0, _ => simpa using h
/-- Bytes of the call's own. -/
def OutB (w : World) (v : Value) (L : List Int) : Prop := w.ownsRow 0 5 1 v L.length (valB L)
theorem own_of1 {w : World} {v : Value} {n : Nat} {xs : List Value} (h : w.ownsRow 0 5 1 v n xs) {w' : World} (hk : Keeps (fun _ => False) w w') : w'.ownsRow 0 5 1 v n xs := ownsRow_keep h fun k hk2 => hk.block k (own_ltk h hk2) (fun h => h)
/-- A row that has grown: nothing else has changed. -/
def Grows (w : World) (v : Value) (w' : World) (v' : Value) : Prop := Keeps (fun b => some b = v.ownBlock) w w' ∧ ∀ g, v'.ownBlock = some g → some g = v.ownBlock ∨ w.heap.size ≤ g
theorem Grows.refl (w : World) (v : Value) : Grows w v w v := ⟨Keeps.refl _ _, fun g h => .inl h.symm⟩
theorem Grows.of {w w' : World} {v : Value} (h : Keeps (fun _ => False) w w') : Grows w v w' v := ⟨h.mono (fun _ _ h => h.elim), fun g h => .inl h.symm⟩
theorem Grows.trans {a b c : World} {v x y : Value} (h : Grows a v b x) (k : Grows b x c y) : Grows a v c y := by
  refine ⟨h.1.trans k.1 (fun p hp e => ?_), fun g hg => ?_⟩
  · rcases h.2 p e.symm with e2 | e2
    · exact e2
    · omega
  · rcases k.2 g hg with e | e
    · rcases h.2 g e.symm with e2 | e2
      · exact .inl e2
      · exact .inr e2
    · have := h.1.size
      exact .inr (by omega)
theorem outB_more {w w1 w5 : World} {v v5 : Value} {L : List Int} (M : List Int) {m : Nat} (hm : m = M.length) (hk : Keeps (fun _ => False) w w1) (ho : w5.ownsRow 0 5 1 v5 (L.length + m) (valB L ++ valB M)) (hg : w1.grownBy w5 v.ownBlock)
    (hb : v5.ownBlock = v.ownBlock ∨ v5.ownBlock = some w1.heap.size) : OutB w5 v5 (L ++ M) ∧ Grows w v w5 v5 := by
  refine ⟨?_, ⟨(hk.mono (T := fun b => some b = v.ownBlock) (fun _ _ h => h.elim)).grown hg fun k e _ => e.symm, fun g hg2 => ?_⟩⟩
  · unfold OutB
    rw [List.length_append, valB_append, ← hm]
    exact ho
  · rcases hb with e | e
    · exact .inl (by rw [← e, hg2])
    · rw [e] at hg2
      have h1 : w1.heap.size = g := Option.some.inj hg2
      have := hk.size
      exact .inr (by omega)

/-- A number's eight bytes. -/
def byteN (n : Int) (k : Nat) : Int := IntKind.u64.wrap n / 2 ^ (56 - 8 * k) % 256
def bytes8 (n : Int) : List Int := (List.range 8).map (byteN n)
theorem bytes8_take (n : Int) (k : Nat) (h : k < 8) : (bytes8 n).take (k + 1) = (bytes8 n).take k ++ [byteN n k] := by
  rw [List.take_succ_eq_append_getElem (by simp [bytes8]; exact h)]
  simp [bytes8]

set_option maxRecDepth 100000 in
set_option maxHeartbeats 4000000 in
theorem number8_any (v : Value) (n : Int) (L : List Int) (hL : L.length ≤ 100000) (w : World) (ho : OutB w v L) : Calls Tryd.prog 48 #[v, .int .i64 n] w fun e w' => ∃ v', e = .returned v' ∧ OutB w' v' (L ++ bytes8 n) ∧ Grows w v w' v' := by
  obtain ⟨i0, hi, hz0, hz1, hz2⟩ := info_parts info5
  have HO := Lib.hid ho
  clear ho
  go_enter Tryd.func48, Tryd.ntmps48
  go_wp2_with fail
  go_loopw [0, 5] (fun s0 s5 wr => ∃ (k : Nat), k ≤ 8 ∧ s5 = .int .i64 (56 - 8 * (k : Int)) ∧ OutB wr s0 (L ++ (bytes8 n).take k) ∧ Grows w v wr s0) (fun _ s5 _ => ((intOf s5) + 9).toNat)
  case atStart => exact ⟨0, by omega, by simp, by simpa using HO.out, Grows.refl _ _⟩
  case round =>
    obtain ⟨k, hk, rfl, ho, kr⟩ := hrel
    have HOW := Lib.hid ho
    have KR := Lib.hid kr
    clear ho kr
    obtain ⟨x0, rfl⟩ : ∃ x, x = u0 := ⟨_, rfl⟩
    by_cases h8 : k < 8
    · have hI : (0 : Int) ≤ 56 - 8 * (k : Int) := by omega
      have hd : decide ((0 : Int) ≤ 56 - 8 * (k : Int)) = true := decide_eq_true hI
      have hI2 : 8 * (k : Int) ≤ 56 := by omega
      have hd2 : decide (8 * (k : Int) ≤ 56) = true := decide_eq_true hI2
      obtain ⟨m, hm⟩ : ∃ m : Nat, m = (L ++ (bytes8 n).take k).length := ⟨_, rfl⟩
      have hm9 : m ≤ 100008 := by rw [hm, List.length_append, List.length_take]; omega
      have HMm := Lib.hid hm
      obtain ⟨x, hx⟩ : ∃ x, x = IntKind.u64.wrap n / 2 ^ (56 - 8 * k) % 256 := ⟨_, rfl⟩
      have HX := Lib.hid hx
      have HT : Hid (L ++ (bytes8 n).take (k + 1) = (L ++ (bytes8 n).take k) ++ [x]) := Lib.hid (by rw [bytes8_take n k h8, hx, List.append_assoc]; rfl)
      clear hm hx
      go_wp2_with (at_builtin; refine wpList_append_atk rfl (.tmp 10) (.tmp 16) 42 rfl 0 5 i0 _ 1 1 Tryd.underlying42 hi hz0 hz1 hz2 (by rfl) (by omega) x0 m (valB (L ++ (bytes8 n).take k)) (by rfl) (by rw [HMm.out]; exact own_of1 HOW.out ((Keeps.refl _ wr).alloc _)) ⟨wr.heap.size, 0, none⟩ 1 1 (valB [x]) (by rfl) (by rfl) (by rw [show valB [x] = [.int .u8 x] from rfl, HX.out]; exact news1 _ 5 rfl) (valB_one _) (by omega) (by omega) (Nat.zero_le _) ?_
                   intro v5 w5 h5 g5 b5
                   obtain ⟨A5, c5', rfl⟩ := own_formk h5
                   have hmm := outB_more (L := L ++ (bytes8 n).take k) [x] rfl ((Keeps.refl _ wr).alloc _) (by rw [← HMm.out]; exact h5) g5 b5
                   have HM := Lib.hid hmm.1
                   have K5 := Lib.hid hmm.2
                   clear hmm h5 g5 b5)
      go_roundw
      case rel => exact ⟨k + 1, by omega, by go_num, by rw [HT.out]; exact HM.out, KR.out.trans K5.out⟩
      case measure => simp [intOf]; omega
    · obtain rfl : k = 8 := by omega
      have ht : (bytes8 n).take 8 = bytes8 n := List.take_of_length_le (by simp [bytes8])
      have HT := Lib.hid ht
      clear ht
      go_wp2
      go_ret
      exact ⟨_, rfl, by rw [← HT.out]; exact HOW.out, KR.out⟩

end Go.Proofs.YtoombjbpblighaaDoor
