/-
  Layer 22: the contract of strings.Split at a blank. Written by an AI agent.
-/
import Derived.Test.YtoombjbpblighabDoorWoQ
import Derived.Shelf.Strings.Count
import Derived.Lib.SplitLaws
namespace Go.Proofs.YtoombjbpblighabDoor
open Go Go.RowKit Go.Shelf
set_option linter.unusedVariables false
set_option linter.unusedSimpArgs false
set_option maxRecDepth 100000

theorem index_single (c : UInt8) (l : List UInt8) : Lib.index l [c] = Lib.indexByte l c := by
  induction l with
  | nil => simp [Lib.index, Lib.indexByte]
  | cons b l ih =>
    by_cases h : b = c
    · subst h
      rw [Lib.index, Lib.indexByte]
      simp [List.isPrefixOf]
    · have hp : ([c] : List UInt8).isPrefixOf (b :: l) = false := by simp [List.isPrefixOf, Ne.symm h]
      rw [Lib.index, hp, Lib.indexByte, ih]
      simp [h]
theorem index_at (c : UInt8) (w : List UInt8) (h : c ∉ w) (r : List UInt8) : Lib.index (w ++ c :: r) [c] = (w.length : Nat) := by
  rw [index_single]
  induction w with
  | nil => simp [Lib.indexByte]
  | cons b w ih =>
    have hb : ¬ b = c := fun e => h (by simp [e])
    have := ih (fun e => h (by simp [e]))
    rw [List.cons_append, Lib.indexByte, this, if_neg (by simpa using hb), if_neg (by simp), List.length_cons]
    omega
theorem splitK_sp (k : Nat) : ∀ l : List UInt8, l.count 32 = k → Lib.splitK [32] 0 k l = splitSp l := by
  induction k with
  | zero =>
    intro l h
    rw [splitSp_last l (List.count_eq_zero.1 h)]
    rfl
  | succ k ih =>
    intro l h
    have hm : (32 : UInt8) ∈ l := List.count_pos_iff.1 (by omega)
    obtain ⟨w, r, e, hw⟩ := List.eq_append_cons_of_mem hm
    subst e
    have hi := index_at 32 w hw r
    rw [Lib.splitK, if_neg (by rw [hi]; simp), hi, splitSp_word w hw, ← ih r (by
      rw [List.count_append, List.count_cons_self, List.count_eq_zero.2 hw] at h
      omega)]
    simp
theorem split_list (s : ByteArray) : (Lib.splitB ⟨#[32]⟩ 0 (Lib.countB s ⟨#[32]⟩) s) = (splitSp s.data.toList).map ofL := by
  have h := Lib.splitB_data ⟨#[32]⟩ 0 (Lib.countB s ⟨#[32]⟩) s
  have hc : Lib.countB s ⟨#[32]⟩ = s.data.toList.count 32 := Lib.count_one 32 _
  rw [hc] at h ⊢
  rw [show (⟨#[32]⟩ : ByteArray).data.toList = [32] from rfl, splitK_sp _ _ rfl] at h
  rw [← h, List.map_map]
  conv => lhs; rw [← List.map_id (Lib.splitB _ _ _ _)]
  exact List.map_congr_left fun x _ => (ofL_self x).symm

def SplitE (l : List UInt8) (w : World) (e : Ending) (w' : World) : Prop := ∃ q : Nat, e = .returned (.slice (some ⟨q, 0, none⟩) (splitSp l).length (splitSp l).length) ∧ Keeps (fun _ => False) w w' ∧ q < w'.heap.size ∧ ∀ i, i < (splitSp l).length → w'.cell? ⟨q, i, none⟩ = some (.string (ofL ((splitSp l).getD i [])))
theorem split_any (s : ByteArray) (hs : s.size ≤ 100000) (w : World) : Calls Tryd.prog 12 #[.string s, .string { data := #[32] }] w fun e w' => SplitE s.data.toList w e w' := by
  have hlen := Lib.splitB_all ⟨#[32]⟩ (by decide) 0 _ s rfl
  have hle := Lib.countB_le ⟨#[32]⟩ (by decide) s.size s (Nat.le_refl _)
  have L := laysSplit
  have c := Any.strings_genSplit_core { L with } (by kernel_rfl) s ⟨#[32]⟩ 0 (-1) (Lib.countB s ⟨#[32]⟩ + 1) w (by omega) (by decide) (Nat.zero_le _)
    (fun x c hx => (Any.strings_Index_one { L with } x 32 _).mono fun e w' h => ⟨by rw [h.1]; show _ = Ending.returned (.int .i64 (Lib.index x.data.toList [32])); rw [index_single], h.2⟩)
    ((Any.strings_Count_one { L with } s 32 w).mono fun e w' h => ⟨by rw [h.1]; show _ = Ending.returned (.int .i64 (Lib.count s.data.toList [32] : Nat)); rw [Lib.count_one]; rfl, h.2⟩)
    (by decide) (by decide) (by rw [if_pos (by decide)]; omega)
  rw [Nat.add_sub_cancel, hlen] at c
  have hl2 : (splitSp s.data.toList).length = Lib.countB s ⟨#[32]⟩ + 1 := by rw [← hlen, split_list, List.length_map]
  have e2 : Lib.cellsOf (Lib.splitB ⟨#[32]⟩ 0 (Lib.countB s ⟨#[32]⟩) s) (Lib.countB s ⟨#[32]⟩ + 1) = ((splitSp s.data.toList).map fun l => Value.string (ofL l)).toArray := by
    rw [← hlen, Lib.cellsOf_full, split_list, List.map_map]
    rfl
  rw [e2, ← hl2] at c
  have C := Lib.hid c
  generalize hN : (splitSp s.data.toList).length = N at C
  clear c hlen hle e2 hl2
  go_enter Tryd.func12, Tryd.ntmps12
  go_wp2_with fail
  refine C.out.mono ?_
  rintro e w1 ⟨rfl, hw1⟩
  have HW1 := Lib.hid hw1
  clear hw1
  go_wp2
  go_ret
  refine ⟨w.heap.size, by rw [hN]; rfl, by rw [HW1.out]; exact (Keeps.refl _ _).alloc _, by rw [HW1.out]; simp, fun i hi => ?_⟩
  rw [HW1.out]
  simp [List.getD_eq_getElem?_getD, hi]
end Go.Proofs.YtoombjbpblighabDoor
