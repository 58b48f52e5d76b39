/-
  Layers 14 and 16: slices.Insert of one element into a row of the call's own (function 38). Written by an AI agent.
-/
import Derived.Test.YtpighdioomjnmabKpA
import Derived.WalkKit
import Derived.Deep.RegionLaw
import Derived.Lib.Hide
namespace Go.Proofs.Ytpighdioomjnmab
open Go.RowKit
set_option linter.unusedVariables false
set_option linter.unusedSimpArgs false

theorem info72 : (Try.prog.info? 72).map (fun i => (i.zero, i.size, i.bytes)) = some (some (.agg #[.int .i64 0, .int .i64 0]), 2, 16) := by kernel_rfl
theorem size72 : (Try.prog.info? 72).map (·.size) = some 2 := by kernel_rfl

/-- What slices.Insert of one element leaves. -/
def Inserted72 (v : Value) (n : Nat) (xs news : List Value) (i : Nat) (w : World) (e : Ending) (w' : World) : Prop :=
  ∃ v', e = .returned v' ∧ w'.ownsRow 0 72 2 v' (n + 1) (xs.take (i * 2) ++ news ++ xs.drop (i * 2)) ∧ w.grownBy w' v.ownBlock ∧ (v'.ownBlock = v.ownBlock ∨ v'.ownBlock = some w.heap.size)

theorem news_at72 {w : World} {ob : Nat} {news : List Value} {T : TypeId} (hob : w.heap[ob]? = some (.cells news.toArray T (0, 0))) : ∀ j u, news[j]? = some u → w.cell? ((⟨ob, 0, none⟩ : Addr).add j) = some u := by
  intro j u hj
  have e : (⟨ob, 0, none⟩ : Addr).add j = ⟨ob, j, none⟩ := by unfold Addr.add; split <;> simp_all
  rw [e]
  simp [World.cell?, hob, hj]

set_option maxRecDepth 100000 in
set_option maxHeartbeats 1000000 in
theorem ins_end72 (w : World) (A : Option Addr) (c n : Nat) (xs news : List Value) (hown : w.ownsRow 0 72 2 (.slice A n c) n xs) (hn : n ≤ 1000) (hl : news.length = 2) (h1 : ∀ u ∈ news, u.oneCell' = true) (ob : Nat) (T : TypeId) (hob : w.heap[ob]? = some (.cells news.toArray T (0, 0))) :
    Calls Try.prog 38 #[.slice A n c, .int .i64 (n : Int), .slice (some ⟨ob, 0, none⟩) 1 1] w (Inserted72 (.slice A n c) n xs news n w) := by
  obtain ⟨i0, hi, hz0, hz1, hz2⟩ := info_parts info72
  have HN := Lib.hid (news_at72 hob)
  have HO := Lib.hid hown
  have hxl : xs.length = n * 2 := hown.1
  have e1 : xs.take (n * 2) = xs := List.take_of_length_le (by omega)
  have e2 : xs.drop (n * 2) = [] := List.drop_of_length_le (by omega)
  rcases hown.2 with ⟨hv, rfl⟩ | ⟨g, cap, cur, hv, _, _, hnc, hcm, _⟩
  · simp only [Value.slice.injEq] at hv
    obtain ⟨rfl, _, rfl⟩ := hv
    clear hown hob
    go_enter Try.func38, Try.ntmps38
    go_wp2_with (at_builtin; refine wpList_append_atk rfl (.tmp 23) (.tmp 24) 67 rfl 0 72 i0 _ 2 16 Try.underlying67 hi hz0 hz1 hz2 (by rfl) (by omega) _ 0 xs (by rfl) HO.out ⟨ob, 0, none⟩ 1 1 news (by rfl) (by omega) HN.out h1 (by omega) (by omega) (Nat.zero_le _) ?_
                 intro v5 w5 h5 g5 b5
                 have H5 := Lib.hid h5
                 have G5 := Lib.hid g5
                 have B5 := Lib.hid b5
                 clear h5 g5 b5)
    go_ret
    exact ⟨v5, rfl, by rw [e1, e2, List.append_nil]; exact H5.out, G5.out, B5.out⟩
  · simp only [Value.slice.injEq] at hv
    obtain ⟨rfl, _, rfl⟩ := hv
    have hc63 : c ≤ 9223372036854775807 := hcm
    clear hown hob hcm
    go_enter Try.func38, Try.ntmps38
    go_wp2_with (at_builtin; refine wpList_append_atk rfl (.tmp 23) (.tmp 24) 67 rfl 0 72 i0 _ 2 16 Try.underlying67 hi hz0 hz1 hz2 (by rfl) (by omega) _ n xs (by rfl) HO.out ⟨ob, 0, none⟩ 1 1 news (by rfl) (by omega) HN.out h1 (by omega) (by omega) (Nat.zero_le _) ?_
                 intro v5 w5 h5 g5 b5
                 have H5 := Lib.hid h5
                 have G5 := Lib.hid g5
                 have B5 := Lib.hid b5
                 clear h5 g5 b5)
    all_goals
      go_ret
      exact ⟨v5, rfl, by rw [e1, e2, List.append_nil]; exact H5.out, G5.out, B5.out⟩

theorem shift_row72 {w : World} {g n c i : Nat} {xs news : List Value} {cur : Array Value} (hg : w.heap[g]? = some (.cells cur 72 (0, 0))) (hcs : cur.size = c * 2) (htake : cur.toList.take (n * 2) = xs) (hxl : xs.length = n * 2) (hi : i ≤ n) (hc : n + 1 ≤ c) (hcm : c ≤ maxLen) (hl : news.length = 2)
    (c1 : List Value) (hc1 : c1 = cur.toList.take ((i + 1) * 2) ++ xs.drop (i * 2) ++ cur.toList.drop ((i + 1) * 2 + (xs.drop (i * 2)).length)) (W : World) (hW : W = (w.drew.setRow g c1.toArray).setRow g (c1.take (i * 2) ++ news ++ c1.drop (i * 2 + news.length)).toArray) :
    W.ownsRow 0 72 2 (.slice (some ⟨g, 0, none⟩) (n + 1) c) (n + 1) (xs.take (i * 2) ++ news ++ xs.drop (i * 2)) ∧ w.grownBy W (some g) ∧ c1.length = cur.size := by
  have hik : i * 2 ≤ n * 2 := Nat.mul_le_mul_right 2 hi
  have hnc : (n + 1) * 2 ≤ c * 2 := Nat.mul_le_mul_right 2 hc
  have e1 : (i + 1) * 2 = i * 2 + 2 := Nat.succ_mul i 2
  have e2 : (n + 1) * 2 = n * 2 + 2 := Nat.succ_mul n 2
  have hcl : cur.toList.length = c * 2 := by rw [Array.length_toList, hcs]
  have l0 : (xs.drop (i * 2)).length = n * 2 - i * 2 := by rw [List.length_drop, hxl]
  have l1 : c1.length = c * 2 := by
    rw [hc1]
    simp only [List.length_append, List.length_take, List.length_drop, hcl, hxl]
    omega
  have hp : cur.toList.take (i * 2) = xs.take (i * 2) := by
    rw [← htake, List.take_take]
    congr 1
    omega
  have key := row_insert (k := 2) (n := n) (i := i) (c := cur.toList) (x := news) (d := xs) hl hi (by omega) hxl hp c1 hc1
  have l2 : (c1.take (i * 2) ++ news ++ c1.drop (i * 2 + news.length)).length = c * 2 := by
    simp only [List.length_append, List.length_take, List.length_drop, l1, hl]
    omega
  have h1 : (w.drew.setRow g c1.toArray).heap[g]? = some (.cells c1.toArray 72 (0, 0)) := setRow_heap w.drew g cur _ 72 _ hg
  subst hW
  refine ⟨⟨?_, .inr ⟨g, c, _, rfl, Nat.zero_le _, setRow_heap _ g _ _ 72 _ h1, hc, hcm, ?_, ?_⟩⟩, ⟨rfl, rfl, rfl, by simp, fun k hk hne => ?_⟩, by rw [l1, hcs]⟩
  · simp only [List.length_append, List.length_take, List.length_drop, hl, hxl]
    omega
  · rw [List.size_toArray, l2]
  · exact key
  · have hkg : k ≠ g := fun e => hne (by rw [e])
    rw [setRow_other _ g k _ hkg, setRow_other _ g k _ hkg]
    rfl

set_option maxRecDepth 100000 in
set_option maxHeartbeats 400000 in
theorem ins_shift72 (w : World) (g c n i : Nat) (xs news : List Value) (hown : w.ownsRow 0 72 2 (.slice (some ⟨g, 0, none⟩) n c) n xs) (hx1 : ∀ u ∈ xs, u.oneCell' = true) (hn : n ≤ 1000) (hin : i < n) (hroom : n + 1 ≤ c) (hl : news.length = 2) (h1 : ∀ u ∈ news, u.oneCell' = true) (ob : Nat) (T : TypeId) (hne : ob ≠ g) (hob : w.heap[ob]? = some (.cells news.toArray T (0, 0))) :
    Calls Try.prog 38 #[.slice (some ⟨g, 0, none⟩) n c, .int .i64 (i : Int), .slice (some ⟨ob, 0, none⟩) 1 1] w (Inserted72 (.slice (some ⟨g, 0, none⟩) n c) n xs news i w) := by
  obtain ⟨i0, hi, hz0, hz1, hz2⟩ := info_parts info72
  have hxl : xs.length = n * 2 := hown.1
  rcases hown.2 with ⟨hv, _⟩ | ⟨g', cap, cur, hv, _, hg, hnc, hcm, hcs, htake⟩
  · simp at hv
  simp only [Value.slice.injEq, Option.some.injEq, Addr.mk.injEq, and_true, true_and] at hv
  obtain ⟨rfl, rfl⟩ := hv
  have hc63 : c ≤ 9223372036854775807 := hcm
  have hik : i * 2 ≤ n * 2 := Nat.mul_le_mul_right 2 (by omega)
  have hnc2 : (n + 1) * 2 ≤ c * 2 := Nat.mul_le_mul_right 2 hroom
  have e1 : (i + 1) * 2 = i * 2 + 2 := Nat.succ_mul i 2
  have e2 : (n + 1) * 2 = n * 2 + 2 := Nat.succ_mul n 2
  have e3 : (n - i) * 2 = n * 2 - i * 2 := Nat.sub_mul n i 2
  have l0 : (xs.drop (i * 2)).length = (n - i) * 2 := by rw [List.length_drop, hxl, e3]
  obtain ⟨c1, hc1⟩ : ∃ c1 : List Value, c1 = cur.toList.take ((i + 1) * 2) ++ xs.drop (i * 2) ++ cur.toList.drop ((i + 1) * 2 + (xs.drop (i * 2)).length) := ⟨_, rfl⟩
  have hcp1 : ∀ ty dl dc sl sc, min sl dl = n - i → (Builtin.copy_ #[67, 67] ty #[.slice (some ⟨g, (i + 1) * 2, none⟩) dl dc, .slice (some ⟨g, i * 2, none⟩) sl sc]).run Try.prog w.drew = .ok (goInt ((n - i : Nat) : Int)) (w.drew.setRow g c1.toArray) := fun ty dl dc sl sc hm => by
    rw [hc1]
    refine run_copy_rowk w.drew 67 67 ty 72 2 g ((i + 1) * 2) dl dc ⟨g, i * 2, none⟩ sl sc cur 72 (xs.drop (i * 2)) (n - i) Try.underlying67 size72 hg hm l0 (fun j u hj => ?_) (by rw [l0, hcs]; omega) (fun u hu => hx1 u (List.mem_of_mem_drop hu))
    rw [List.getElem?_drop] at hj
    have e : (⟨g, i * 2, none⟩ : Addr).add j = ⟨g, i * 2 + j, none⟩ := by unfold Addr.add; split <;> simp_all
    rw [e]
    have hlt := (List.getElem?_eq_some_iff.1 hj).1
    exact (hown.cellAt (i * 2 + j) (by omega)).trans hj
  obtain ⟨W1, hW1⟩ : ∃ W1 : World, W1 = w.drew.setRow g c1.toArray := ⟨_, rfl⟩
  obtain ⟨W2, hW2⟩ : ∃ W2 : World, W2 = W1.setRow g (c1.take (i * 2) ++ news ++ c1.drop (i * 2 + news.length)).toArray := ⟨_, rfl⟩
  have key := shift_row72 hg hcs htake hxl (by omega : i ≤ n) hroom hcm hl c1 hc1 W2 (by rw [hW2, hW1])
  have hgW1 : W1.heap[g]? = some (.cells c1.toArray 72 (0, 0)) := by rw [hW1]; exact setRow_heap w.drew g cur _ 72 _ hg
  have hobW1 : W1.heap[ob]? = some (.cells news.toArray T (0, 0)) := by rw [hW1, setRow_other _ g ob _ hne]; exact hob
  have hcp2 : ∀ ty dl dc, 1 ≤ dl → (Builtin.copy_ #[67, 67] ty #[.slice (some ⟨g, i * 2, none⟩) dl dc, .slice (some ⟨ob, 0, none⟩) 1 1]).run Try.prog W1 = .ok (goInt ((1 : Nat) : Int)) W2 := fun ty dl dc hd => by
    rw [hW2]
    exact run_copy_rowk W1 67 67 ty 72 2 g (i * 2) dl dc ⟨ob, 0, none⟩ 1 1 c1.toArray 72 news 1 Try.underlying67 size72 hgW1 (by omega) (by omega) (news_at72 hobW1) (by rw [List.size_toArray, key.2.2, hl, hcs]; omega) h1
  have hov : ∀ lb cb, (callFunc 55 #[.slice (some ⟨ob, 0, none⟩) 1 1, .slice (some ⟨g, (i + 1) * 2, none⟩) lb cb]).run Try.prog w = .ok (.value (.bool false)) w := fun lb cb => by
    rw [run_callFunc_extern Try.func55 (by kernel_rfl) (by kernel_rfl) (by kernel_rfl) (e := Extern.SlicesOverlaps.overlaps #[67, 67] #[4]) (by kernel_rfl),
      Lib.run_overlaps_apart w 67 4 72 Try.underlying67 2 (fun w => by simp [sizeOf, typeInfo, hi, hz1]) ⟨ob, 0, none⟩ ⟨g, (i + 1) * 2, none⟩ 1 1 lb cb hne T 72 news.length cur.size (by simp [World.shape?, hob]) (by simp [World.shape?, hg]) (by rw [hcs]; omega) (by simp [World.frozen?, hob]) (by simp [World.frozen?, hob])]
    rfl
  have HK := Lib.hid key
  have HC1 := Lib.hid hcp1
  have HC2 := Lib.hid hcp2
  have hz2' : ¬ ((i : Int) = (n : Int)) := by omega
  have hwn : IntKind.i64.wrap ((n : Int) + 1) = (n : Int) + 1 := IntWalk.i64_in _ (by omega)
  have hw1 : IntKind.i64.wrap ((i : Int) + 1) = (i : Int) + 1 := IntWalk.i64_in _ (by omega)
  have hcn : ¬ ((c : Int) < (n : Int) + 1) := by omega
  have hb1 : (0 : Int) ≤ (i : Int) + 1 := by omega
  have hb1n : (0 : Int) ≤ (n : Int) + 1 := by omega
  have hin' : i ≤ n := by omega
  have htn : ((i : Int) + 1).toNat = i + 1 := by omega
  have htnn : ((n : Int) + 1).toNat = n + 1 := by omega
  have hb2 : ¬ (c = i + 1) := by omega
  have hb3 : (i : Int) ≤ (n : Int) + 1 := by omega
  have hb3' : (i : Int) ≤ (n : Int) := by omega
  have hb4 : ¬ (c = i) := by omega
  have hb5 : (n : Int) + 1 ≤ (c : Int) := by omega
  rw [← hW1] at HC1
  clear hown hx1 hob hg hnc hcs htake key hcp1 hcp2 hc1 hgW1 hobW1 l0 e1 e2 e3 hik hnc2 hW1 hW2 hxl hcm
  go_enter Try.func38, Try.ntmps38
  go_wp2_with (simp only [hov])
  go_region_law (refine step_copy_runI rfl (.tmp 73) (.tmp 76) 67 67 rfl (.slice (some ⟨g, (i + 1) * 2, none⟩) (n - i) (c - (i + 1))) (.slice (some ⟨g, i * 2, none⟩) (n + 1 - i) (c - i)) (by simp [Act.eval, Act.put]) (by simp [Act.eval, Act.put]) (HC1.out 3 (n - i) (c - (i + 1)) (n + 1 - i) (c - i) (by omega)) ?_)
  have hr2 := HC2.out 3 (n + 1 - i) (c - i) (by omega)
  go_wp2_with (refine wpList_copy_runI _ rfl (.tmp 80) (.tmp 81) 67 67 rfl (.slice (some ⟨g, i * 2, none⟩) (n + 1 - i) (c - i)) (.slice (some ⟨ob, 0, none⟩) 1 1) (by rfl) (by rfl) hr2 ?_)
  go_ret
  exact ⟨_, rfl, HK.out.1, HK.out.2.1, .inl rfl⟩

theorem row_grow72 {k n i : Nat} {R x d : List Value} (hx : x.length = k) (hi : i ≤ n) (hd : d.length = n * k) (hR : R.take (i * k) = d.take (i * k)) (r1 : List Value) (hr1 : r1 = R.take (i * k) ++ x ++ R.drop (i * k + x.length)) :
    (r1.take ((i + 1) * k) ++ d.drop (i * k) ++ r1.drop ((i + 1) * k + (d.drop (i * k)).length)).take ((n + 1) * k) = d.take (i * k) ++ x ++ d.drop (i * k) := by
  have hik : i * k ≤ n * k := Nat.mul_le_mul_right k hi
  have e1 : (i + 1) * k = i * k + k := Nat.succ_mul i k
  have e2 : (n + 1) * k = n * k + k := Nat.succ_mul n k
  have l3 : (d.take (i * k)).length = i * k := by rw [List.length_take]; omega
  have t1 : r1.take ((i + 1) * k) = d.take (i * k) ++ x := by
    rw [hr1, hR]
    exact List.take_left' (by rw [List.length_append, l3, hx, e1])
  rw [t1]
  exact List.take_left' (by rw [List.length_append, List.length_append, List.length_drop, l3, hx, hd]; omega)

set_option maxRecDepth 100000 in
set_option maxHeartbeats 2000000 in
theorem ins_grow72 (w : World) (g c n i : Nat) (xs news : List Value) (hown : w.ownsRow 0 72 2 (.slice (some ⟨g, 0, none⟩) n c) n xs) (hx1 : ∀ u ∈ xs, u.oneCell' = true) (hn : n ≤ 1000) (hin : i < n) (hroom : c < n + 1) (hl : news.length = 2) (h1 : ∀ u ∈ news, u.oneCell' = true) (ob : Nat) (T : TypeId) (hob : w.heap[ob]? = some (.cells news.toArray T (0, 0))) :
    Calls Try.prog 38 #[.slice (some ⟨g, 0, none⟩) n c, .int .i64 (i : Int), .slice (some ⟨ob, 0, none⟩) 1 1] w (Inserted72 (.slice (some ⟨g, 0, none⟩) n c) n xs news i w) := by
  obtain ⟨i0, hi, hz0, hz1, hz2⟩ := info_parts info72
  have hxl : xs.length = n * 2 := hown.1
  have hglt : g < w.heap.size := (hown.lt g rfl).2
  have hoblt : ob < w.heap.size := by
    rcases Nat.lt_or_ge ob w.heap.size with h | h
    · exact h
    · rw [Array.getElem?_eq_none h] at hob; cases hob
  have hnc : n ≤ c := by
    rcases hown.2 with ⟨hv, _⟩ | ⟨g', cap, cur, hv, _, hg, hnc, hcm, hcs, htake⟩
    · simp at hv
    · simp only [Value.slice.injEq] at hv
      obtain ⟨_, _, rfl⟩ := hv
      exact hnc
  have hik : i * 2 ≤ n * 2 := Nat.mul_le_mul_right 2 (by omega)
  have e1 : (i + 1) * 2 = i * 2 + 2 := Nat.succ_mul i 2
  have e2 : (n + 1) * 2 = n * 2 + 2 := Nat.succ_mul n 2
  have e3 : (n - i) * 2 = n * 2 - i * 2 := Nat.sub_mul n i 2
  have l0 : (xs.drop (i * 2)).length = (n - i) * 2 := by rw [List.length_drop, hxl, e3]
  have hcell : ∀ j u, xs[j]? = some u → w.cell? ⟨g, j, none⟩ = some u := fun j u hj => by
    have hlt := (List.getElem?_eq_some_iff.1 hj).1
    exact (hown.cellAt j (by omega)).trans hj
  have hadd : ∀ b o j, (⟨b, o, none⟩ : Addr).add j = ⟨b, o + j, none⟩ := fun b o j => by unfold Addr.add; split <;> simp_all
  have hkk : (n : Int) + 1 - (i : Int) = ((n + 1 - i : Nat) : Int) := by omega
  have hikn : i + (n + 1 - i) = n + 1 := by omega
  have hold : (Builtin.firstCells i0.size i (.slice (some ⟨g, 0, none⟩) i c)).run Try.prog w.drew = .ok (xs.take (i * 2)).toArray w.drew := by
    rw [hz1]
    exact run_firstCells_some w.drew 2 i ⟨g, 0, none⟩ i c (xs.take (i * 2)) (by rw [List.length_take]; omega) (fun j v hj => by
      rw [hadd, Nat.zero_add]
      rw [List.getElem?_take] at hj
      split at hj
      · exact hcell j v hj
      · cases hj)
  obtain ⟨G, hG⟩ : ∃ G, G = grownCap w (n + 1) c 72 := ⟨_, rfl⟩
  obtain ⟨ROW, hROW⟩ : ∃ ROW : Array Value, ROW = (xs.take (i * 2)).toArray ++ Builtin.zeroCells (Value.cells (.agg #[.int .i64 0, .int .i64 0])) (n + 1 - i) ++ Builtin.zeroCells (Value.cells (.agg #[.int .i64 0, .int .i64 0])) (G - (n + 1)) := ⟨_, rfl⟩
  obtain ⟨W1, hW1⟩ : ∃ W1 : World, W1 = w.drew.alloc (.cells ROW 72) := ⟨_, rfl⟩
  obtain ⟨Z, hZ⟩ : ∃ Z : Nat, Z = w.heap.size := ⟨_, rfl⟩
  have hrz : ∀ ty, (Builtin.append_ #[67, 3] ty #[.slice (some ⟨g, 0, none⟩) i c, .int .i64 ((n : Int) + 1 - (i : Int))]).run Try.prog w = .ok (.slice (some ⟨Z, 0, none⟩) (n + 1) G) W1 := fun ty => by
    have h := Lib.run_append_grow_zeros (P := Try.prog) w 67 3 ty 72 i0 _ .i64 .i64 Try.underlying67 Try.underlying3 hi hz0 (some ⟨g, 0, none⟩) i c (xs.take (i * 2)) hold (n + 1 - i) (by omega) (by rw [hz1]; omega) (by omega) (by omega) (by rw [hz2]; omega) (by rw [hz2, hikn]; exact growslice_fits hroom (by omega))
    rw [hikn] at h
    rw [hkk, hW1, hROW, hG, hZ]
    exact h
  have hGn : n + 1 ≤ G := by rw [hG]; exact grownCap_ge w _ _ _
  have hGm : G ≤ maxLen := by rw [hG]; exact grownCap_le_maxLen w (n + 1) c 72 (by unfold maxLen; omega)
  have hRs : ROW.size = G * 2 := by
    rw [hROW]
    simp [Builtin.zeroCells, Value.cells]
    omega
  have hRt : ROW.toList.take (i * 2) = xs.take (i * 2) := by
    rw [hROW]
    simp only [Array.toList_append, List.append_assoc]
    exact List.take_left' (by rw [List.length_take]; omega)
  have hgZ : W1.heap[Z]? = some (.cells ROW 72 (0, 0)) := by rw [hW1, hZ]; exact heap_alloc_new w.drew _
  have hold1 : ∀ k, k < w.heap.size → W1.heap[k]? = w.heap[k]? := fun k hk => by rw [hW1]; exact Below.heap_alloc w.drew _ k hk
  obtain ⟨r1, hr1⟩ : ∃ r1 : List Value, r1 = ROW.toList.take (i * 2) ++ news ++ ROW.toList.drop (i * 2 + news.length) := ⟨_, rfl⟩
  obtain ⟨r2, hr2⟩ : ∃ r2 : List Value, r2 = r1.take ((i + 1) * 2) ++ xs.drop (i * 2) ++ r1.drop ((i + 1) * 2 + (xs.drop (i * 2)).length) := ⟨_, rfl⟩
  obtain ⟨W2, hW2⟩ : ∃ W2 : World, W2 = W1.setRow Z r1.toArray := ⟨_, rfl⟩
  obtain ⟨W3, hW3⟩ : ∃ W3 : World, W3 = W2.drew.setRow Z r2.toArray := ⟨_, rfl⟩
  have hnc2 : (n + 1) * 2 ≤ G * 2 := Nat.mul_le_mul_right 2 hGn
  have l1 : r1.length = G * 2 := by
    rw [hr1]
    simp only [List.length_append, List.length_take, List.length_drop, Array.length_toList, hRs, hl]
    omega
  have l2 : r2.length = G * 2 := by
    rw [hr2]
    simp only [List.length_append, List.length_take, List.length_drop, l1, hxl]
    omega
  have hgZ2 : W2.heap[Z]? = some (.cells r1.toArray 72 (0, 0)) := by rw [hW2]; exact setRow_heap W1 Z _ _ 72 _ hgZ
  have hold2 : ∀ k, k < w.heap.size → W2.heap[k]? = w.heap[k]? := fun k hk => by rw [hW2, setRow_other _ Z k _ (by omega)]; exact hold1 k hk
  have hcp1 : (Builtin.copy_ #[67, 67] 3 #[.slice (some ⟨Z, i * 2, none⟩) (n + 1 - i) (G - i), .slice (some ⟨ob, 0, none⟩) 1 1]).run Try.prog W1 = .ok (goInt ((1 : Nat) : Int)) W2 := by
    rw [hW2, hr1]
    exact run_copy_rowk W1 67 67 3 72 2 Z (i * 2) (n + 1 - i) (G - i) ⟨ob, 0, none⟩ 1 1 ROW 72 news 1 Try.underlying67 size72 hgZ (by omega) (by omega) (news_at72 ((hold1 ob hoblt).trans hob)) (by rw [hRs, hl]; omega) h1
  have hcp2 : (Builtin.copy_ #[67, 67] 3 #[.slice (some ⟨Z, (i + 1) * 2, none⟩) (n - i) (G - (i + 1)), .slice (some ⟨g, i * 2, none⟩) (n - i) (c - i)]).run Try.prog W2.drew = .ok (goInt ((n - i : Nat) : Int)) W3 := by
    rw [hW3, hr2]
    refine run_copy_rowk W2.drew 67 67 3 72 2 Z ((i + 1) * 2) (n - i) (G - (i + 1)) ⟨g, i * 2, none⟩ (n - i) (c - i) r1.toArray 72 (xs.drop (i * 2)) (n - i) Try.underlying67 size72 hgZ2 (by omega) l0 (fun j u hj => ?_) (by rw [List.size_toArray, l0, l1]; omega) (fun u hu => hx1 u (List.mem_of_mem_drop hu))
    rw [List.getElem?_drop] at hj
    rw [hadd]
    exact (World.cell?_of_block (w := w) (w' := W2.drew) (a := ⟨g, i * 2 + j, none⟩) (hold2 g hglt)).trans (hcell _ u hj)
  have key : W3.ownsRow 0 72 2 (.slice (some ⟨Z, 0, none⟩) (n + 1) G) (n + 1) (xs.take (i * 2) ++ news ++ xs.drop (i * 2)) ∧ w.grownBy W3 (some g) := by
    have hgW2d : W2.drew.heap[Z]? = some (.cells r1.toArray 72 (0, 0)) := hgZ2
    refine ⟨⟨?_, .inr ⟨Z, G, r2.toArray, rfl, Nat.zero_le _, ?_, hGn, hGm, by rw [List.size_toArray, l2], ?_⟩⟩, ⟨?_, ?_, ?_, ?_, fun k hk _ => ?_⟩⟩
    · simp only [List.length_append, List.length_take, List.length_drop, hl, hxl]
      omega
    · rw [hW3]; exact setRow_heap W2.drew Z _ _ 72 _ hgW2d
    · rw [hr2]
      exact row_grow72 hl (by omega) hxl hRt r1 hr1
    · rw [hW3, hW2, hW1]; rfl
    · rw [hW3, hW2, hW1]; rfl
    · rw [hW3, hW2, hW1]; rfl
    · rw [hW3, setRow_size]
      show w.heap.size ≤ W2.heap.size
      rw [hW2, setRow_size, hW1]
      simp
    · rw [hW3, setRow_other _ Z k _ (by omega)]
      exact hold2 k hk
  have HK := Lib.hid key
  have HZ := Lib.hid hZ
  have hz2' : ¬ ((i : Int) = (n : Int)) := by omega
  have hwn : IntKind.i64.wrap ((n : Int) + 1) = (n : Int) + 1 := IntWalk.i64_in _ (by omega)
  have hw1 : IntKind.i64.wrap ((i : Int) + 1) = (i : Int) + 1 := IntWalk.i64_in _ (by omega)
  have hw3 : IntKind.i64.wrap ((n : Int) + 1 - (i : Int)) = (n : Int) + 1 - (i : Int) := IntWalk.i64_in _ (by omega)
  have hcn : (c : Int) < (n : Int) + 1 := by omega
  have hb1 : (0 : Int) ≤ (i : Int) + 1 := by omega
  have hin' : i ≤ n := by omega
  have hic : i ≤ c := by omega
  have htn : ((i : Int) + 1).toNat = i + 1 := by omega
  have hb3 : (i : Int) ≤ (n : Int) := by omega
  have hb3' : (i : Int) ≤ (n : Int) + 1 := by omega
  have hbc : (i : Int) ≤ (c : Int) := by omega
  have hGi : ¬ (G = i) := by omega
  have hGim : ¬ (G = i + 1) := by omega
  have hci : ¬ (c = i) := by omega
  have hrz0 := hrz 67
  clear hown hx1 hob hoblt hglt hnc hik e1 e2 e3 l0 hcell hadd hkk hikn hold hG hROW hW1 hZ hrz hGn hGm hRs hRt hgZ hold1 hr1 hr2 hW2 hW3 hnc2 l1 l2 hgZ2 hold2 key hxl
  go_enter Try.func38, Try.ntmps38
  go_wp2_with (first
    | (at_builtin; refine Lib.wpList_append_run _ rfl (.tmp 34) (.tmp 39) 67 3 rfl (.slice (some ⟨g, 0, none⟩) i c) (.int .i64 ((n : Int) + 1 - (i : Int))) (by rfl) (by rfl) _ _ hrz0 ?_)
    | (refine wpList_copy_runI _ rfl (.tmp 43) (.tmp 44) 67 67 rfl (.slice (some ⟨Z, i * 2, none⟩) (n + 1 - i) (G - i)) (.slice (some ⟨ob, 0, none⟩) 1 1) (by rfl) (by rfl) hcp1 ?_))
  go_region_law (refine step_copy_runI rfl (.tmp 50) (.tmp 53) 67 67 rfl (.slice (some ⟨Z, (i + 1) * 2, none⟩) (n - i) (G - (i + 1))) (.slice (some ⟨g, i * 2, none⟩) (n - i) (c - i)) (by simp [Act.eval, Act.put]) (by simp [Act.eval, Act.put]) hcp2 ?_)
  go_wp2
  go_ret
  exact ⟨_, rfl, HK.out.1, HK.out.2, .inr (by rw [← HZ.out]; rfl)⟩

/-- slices.Insert of one element, wherever it goes. -/
theorem ins_any72 (w : World) (v : Value) (n i : Nat) (xs news : List Value) (hown : w.ownsRow 0 72 2 v n xs) (hx1 : ∀ u ∈ xs, u.oneCell' = true) (hn : n ≤ 1000) (hin : i ≤ n) (hl : news.length = 2) (h1 : ∀ u ∈ news, u.oneCell' = true) (ob : Nat) (T : TypeId) (hne : v.ownBlock ≠ some ob) (hob : w.heap[ob]? = some (.cells news.toArray T (0, 0))) :
    Calls Try.prog 38 #[v, .int .i64 (i : Int), .slice (some ⟨ob, 0, none⟩) 1 1] w (Inserted72 v n xs news i w) := by
  rcases Nat.lt_or_ge i n with h | h
  · rcases hown.2 with ⟨_, h0⟩ | ⟨g, cap, cur, rfl, _⟩
    · omega
    · rcases Nat.lt_or_ge cap (n + 1) with hr | hr
      · exact ins_grow72 w g cap n i xs news hown hx1 hn h hr hl h1 ob T hob
      · exact ins_shift72 w g cap n i xs news hown hx1 hn h hr hl h1 ob T (fun e => hne (by rw [e]; rfl)) hob
  · obtain rfl : i = n := by omega
    rcases hown.2 with ⟨rfl, rfl⟩ | ⟨g, cap, cur, rfl, _⟩
    · exact ins_end72 w none 0 0 xs news hown hn hl h1 ob T hob
    · exact ins_end72 w _ cap i xs news hown hn hl h1 ob T hob

end Go.Proofs.Ytpighdioomjnmab
